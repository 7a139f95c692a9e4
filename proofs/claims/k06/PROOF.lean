import PyProof.Rows.All
import Wide.All
import OpenK.AllK
import Wide.FinOn
import HandS.ForMost
import HandS.Walk
import HandS.IsInst
import HandS.Conv
import HandS.Strs
import HandS.Style
import HandS.Sort
import HandS.SortRule
import HandS.Wide
import HandS.WideBits
import HandS.TupAny
import KE.GoesMore
import KE.GoesEnum
import KE.GoesNew
import HandS.ForExc
import HandS.ExcInit
import HandS.ExcField
import HandS.ExcIs
import HandS.TupSets
import HandS.Evl
import HandS.Defaults
import HandS.NoneIn
import PySem.Challenge.RW_lastthrough_k06_moves_and_plans
set_option Elab.async false
set_option linter.all false
set_option maxRecDepth 100000
set_option maxHeartbeats 4000000
/-! trees: the mathematics -/
namespace K5
/-- doors es, each (parent, child), children all different; a bridge each; all connected -/
structure Tr0 (n : Nat) (es : List (Nat × Nat)) : Prop where
  len : es.length + 1 = n
  lt : ∀ e ∈ es, e.1 < n ∧ e.2 < n
  nd : (es.map Prod.snd).Nodup
  side : ∃ side : Nat → Nat → Bool, (∀ e ∈ es, side e.2 e.1 ≠ side e.2 e.2) ∧ ∀ e ∈ es, ∀ f ∈ es, e.2 ≠ f.2 → side e.2 f.1 = side e.2 f.2
  conn : ∀ S : Nat → Prop, (∀ e ∈ es, S e.1 ↔ S e.2) → ∀ x y, x < n → y < n → S x → S y
theorem Tr0.one : Tr0 1 [] where
  len := rfl
  lt := fun _ h => nomatch h
  nd := List.nodup_nil
  side := ⟨fun _ _ => true, fun _ h => (nomatch h), fun _ h => (nomatch h)⟩
  conn := fun S _ x y hx hy h => (show x = y by omega) ▸ h
theorem Tr0.grow {n : Nat} {es : List (Nat × Nat)} (T : Tr0 n es) (o : Nat) (ho : o < n) : Tr0 (n + 1) (es ++ [(o, n)]) := by
  obtain ⟨len, lt, nd, ⟨side, s1, s2⟩, conn⟩ := T
  have hn : ∀ e ∈ es, e.2 ≠ n := fun e h => by have := (lt e h).2; omega
  have hn1 : ∀ e ∈ es, e.1 ≠ n := fun e h => by have := (lt e h).1; omega
  refine ⟨by simp; omega, fun e h => ?_, ?_, ⟨fun c x => if c = n then decide (x = n) else if x = n then side c o else side c x, fun e h => ?_, fun e h f hf hne => ?_⟩, fun S hS x y hx hy h => ?_⟩
  · rcases List.mem_append.mp h with h | h
    · have := lt e h; omega
    · rw [List.mem_singleton.mp h]; exact ⟨Nat.lt_succ_of_lt ho, Nat.lt_succ_self _⟩
  · rw [List.map_append]
    refine List.nodup_append.mpr ⟨nd, by simp, fun a ha b hb => ?_⟩
    obtain ⟨e, he, rfl⟩ := List.mem_map.mp ha
    simp at hb
    rw [hb]
    exact hn e he
  · rcases List.mem_append.mp h with h | h
    · simp only [if_neg (hn e h), if_neg (hn1 e h)]
      exact s1 e h
    · rw [List.mem_singleton.mp h]
      simp only [if_pos rfl]
      rw [decide_eq_false (show ¬ o = n by omega)]
      simp
  · rcases List.mem_append.mp h with h | h
    · simp only [if_neg (hn e h)]
      rcases List.mem_append.mp hf with hf | hf
      · simp only [if_neg (hn f hf), if_neg (hn1 f hf)]
        exact s2 e h f hf hne
      · rw [List.mem_singleton.mp hf]
        simp only [if_neg (show ¬ o = n by omega), if_true]
    · rcases List.mem_append.mp hf with hf | hf
      · rw [List.mem_singleton.mp h]
        simp only [if_true]
        rw [decide_eq_false (hn f hf), decide_eq_false (hn1 f hf)]
      · rw [List.mem_singleton.mp h, List.mem_singleton.mp hf] at hne
        exact absurd rfl hne
  · have h0 : ∀ e ∈ es, S e.1 ↔ S e.2 := fun e he => hS e (List.mem_append.mpr (.inl he))
    have h1 : S o ↔ S n := hS (o, n) (List.mem_append.mpr (.inr (List.mem_singleton.mpr rfl)))
    by_cases ex : x = n
    · subst ex
      have so : S o := h1.mpr h
      by_cases ey : y = x
      · exact ey ▸ h
      · exact conn S h0 o y ho (by omega) so
    · have sx : S o := conn S h0 x o (by omega) ho h
      by_cases ey : y = n
      · exact ey ▸ h1.mp sx
      · exact conn S h0 x y (by omega) (by omega) h
theorem Tr0.perm {n : Nat} {es fs : List (Nat × Nat)} (T : Tr0 n es) (p : fs.Perm es) : Tr0 n fs := by
  obtain ⟨len, lt, nd, ⟨side, s1, s2⟩, conn⟩ := T
  exact ⟨by rw [p.length_eq]; exact len, fun e h => lt e (p.mem_iff.mp h), (p.map Prod.snd).nodup_iff.mpr nd,
    ⟨side, fun e h => s1 e (p.mem_iff.mp h), fun e h f hf => s2 e (p.mem_iff.mp h) f (p.mem_iff.mp hf)⟩,
    fun S hS => conn S fun e h => hS e (p.mem_iff.mpr h)⟩
/-- renamed by a list of names that is a rearrangement of 0 .. n - 1 -/
theorem Tr0.names {n : Nat} {es : List (Nat × Nat)} (T : Tr0 n es) (f g : Nat → Nat) (h1 : ∀ x, x < n → f x < n) (h2 : ∀ x, x < n → g (f x) = x) (h3 : ∀ y, y < n → g y < n ∧ f (g y) = y) :
    Tr0 n (es.map fun e => (f e.1, f e.2)) := by
  obtain ⟨len, lt, nd, ⟨side, s1, s2⟩, conn⟩ := T
  refine ⟨by rw [List.length_map]; exact len, fun e h => ?_, ?_, ⟨fun c x => side (g c) (g x), fun e h => ?_, fun e h e' h' hne => ?_⟩, fun S hS x y hx hy h => ?_⟩
  · obtain ⟨a, ha, rfl⟩ := List.mem_map.mp h
    exact ⟨h1 _ (lt a ha).1, h1 _ (lt a ha).2⟩
  · rw [List.map_map]
    have q : ∀ l : List (Nat × Nat), (∀ e ∈ l, e.2 < n) → (l.map Prod.snd).Nodup → (l.map (Prod.snd ∘ fun e => (f e.1, f e.2))).Nodup := by
      intro l
      induction l with
      | nil => intro _ _; exact List.nodup_nil
      | cons a r ih =>
        intro hl hd
        rw [List.map_cons] at hd ⊢
        obtain ⟨d1, d2⟩ := List.nodup_cons.mp hd
        refine List.nodup_cons.mpr ⟨fun m => d1 ?_, ih (fun e he => hl e (List.mem_cons_of_mem _ he)) d2⟩
        obtain ⟨b, hb, e⟩ := List.mem_map.mp m
        have e' : f b.2 = f a.2 := e
        have : b.2 = a.2 := by rw [← h2 b.2 (hl b (List.mem_cons_of_mem _ hb)), e', h2 a.2 (hl a List.mem_cons_self)]
        exact List.mem_map.mpr ⟨b, hb, this⟩
    exact q es (fun e he => (lt e he).2) nd
  · obtain ⟨a, ha, rfl⟩ := List.mem_map.mp h
    show side (g (f a.2)) (g (f a.1)) ≠ side (g (f a.2)) (g (f a.2))
    rw [h2 _ (lt a ha).1, h2 _ (lt a ha).2]
    exact s1 a ha
  · obtain ⟨a, ha, rfl⟩ := List.mem_map.mp h
    obtain ⟨b, hb, rfl⟩ := List.mem_map.mp h'
    show side (g (f a.2)) (g (f b.1)) = side (g (f a.2)) (g (f b.2))
    rw [h2 _ (lt a ha).2, h2 _ (lt b hb).1, h2 _ (lt b hb).2]
    exact s2 a ha b hb fun e => hne (by show f a.2 = f b.2; rw [e])
  · have q := conn (fun z => S (f z)) (fun e he => hS _ (List.mem_map.mpr ⟨e, he, rfl⟩)) (g x) (g y) (h3 x hx).1 (h3 y hy).1 (by show S (f (g x)); rw [(h3 x hx).2]; exact h)
    have q' : S (f (g y)) := q
    rw [(h3 y hy).2] at q'
    exact q'

/-- a house of n rooms that is a tree, its doors by their numbers, the ends in either order -/
structure Tree (n : Nat) (ds : List (Nat × Nat)) : Prop where
  len : ds.length + 1 = n
  lt : ∀ e ∈ ds, e.1 < n ∧ e.2 < n
  side : ∃ side : Nat → Nat → Bool, (∀ d e, ds[d]? = some e → side d e.1 ≠ side d e.2) ∧ ∀ c d e, ds[d]? = some e → c ≠ d → side c e.1 = side c e.2
  conn : ∀ S : Nat → Prop, (∀ e ∈ ds, S e.1 ↔ S e.2) → ∀ x y, x < n → y < n → S x → S y
/-- pointwise the same up to the order of the ends -/
inductive Flip : List (Nat × Nat) → List (Nat × Nat) → Prop
  | nil : Flip [] []
  | same {e es fs} (h : Flip es fs) : Flip (e :: es) (e :: fs)
  | turn {a b es fs} (h : Flip es fs) : Flip ((a, b) :: es) ((b, a) :: fs)
theorem Flip.len : ∀ {es fs}, Flip es fs → es.length = fs.length
  | _, _, .nil => rfl
  | _, _, .same h => by rw [List.length_cons, List.length_cons, h.len]
  | _, _, .turn h => by rw [List.length_cons, List.length_cons, h.len]
theorem Flip.get : ∀ {es fs}, Flip es fs → ∀ {d : Nat} {f : Nat × Nat}, fs[d]? = some f → ∃ e, es[d]? = some e ∧ (f = e ∨ f = (e.2, e.1))
  | _, _, .nil, d, f, h => by simp at h
  | _, _, .same h, 0, f, e => ⟨_, rfl, .inl (Option.some.inj e).symm⟩
  | _, _, .turn h, 0, f, e => ⟨_, rfl, .inr (Option.some.inj e).symm⟩
  | _, _, .same h, d + 1, f, e => h.get (d := d) e
  | _, _, .turn h, d + 1, f, e => h.get (d := d) e
theorem Flip.get' : ∀ {es fs}, Flip es fs → ∀ {d : Nat} {e : Nat × Nat}, es[d]? = some e → ∃ f, fs[d]? = some f ∧ (f = e ∨ f = (e.2, e.1))
  | _, _, .nil, d, f, h => by simp at h
  | _, _, .same h, 0, f, e => ⟨_, rfl, .inl (Option.some.inj e)⟩
  | _, _, .turn h, 0, f, e => ⟨_, rfl, .inr (by rw [← Option.some.inj e])⟩
  | _, _, .same h, d + 1, f, e => h.get' (d := d) e
  | _, _, .turn h, d + 1, f, e => h.get' (d := d) e
theorem Flip.snoc : ∀ {es fs} (e : Nat × Nat), Flip es fs → Flip (es ++ [e]) (fs ++ [e])
  | _, _, _, .nil => .same .nil
  | _, _, e, .same h => .same (h.snoc e)
  | _, _, e, .turn h => .turn (h.snoc e)
theorem Flip.snocT : ∀ {es fs} (a b : Nat), Flip es fs → Flip (es ++ [(a, b)]) (fs ++ [(b, a)])
  | _, _, _, _, .nil => .turn .nil
  | _, _, a, b, .same h => .same (h.snocT a b)
  | _, _, a, b, .turn h => .turn (h.snocT a b)
theorem Flip.refl : ∀ es, Flip es es
  | [] => .nil
  | _ :: r => .same (Flip.refl r)
theorem Tr0.tree {n : Nat} {es ds : List (Nat × Nat)} (T : Tr0 n es) (F : Flip es ds) : Tree n ds := by
  obtain ⟨len, lt, nd, ⟨side, s1, s2⟩, conn⟩ := T
  refine ⟨by rw [← F.len]; exact len, fun f h => ?_, ⟨fun d x => match es[d]? with | some e => side e.2 x | none => true, fun d f h => ?_, fun c d f h hne => ?_⟩, fun S hS => conn S fun e he => ?_⟩
  · obtain ⟨d, hd⟩ := List.mem_iff_getElem?.mp h
    obtain ⟨e, he, q⟩ := F.get hd
    have := lt e (List.mem_of_getElem? he)
    rcases q with q | q <;> subst q
    · exact this
    · exact ⟨this.2, this.1⟩
  · obtain ⟨e, he, q⟩ := F.get h
    have := s1 e (List.mem_of_getElem? he)
    simp only [he]
    rcases q with q | q <;> subst q
    · exact this
    · exact this.symm
  · obtain ⟨e, he, q⟩ := F.get h
    cases hc : es[c]? with
    | none => simp only [hc]
    | some e' =>
      simp only [hc]
      have hne2 : e'.2 ≠ e.2 := fun z => by
        apply hne
        obtain ⟨hd, hed⟩ := List.getElem?_eq_some_iff.mp he
        obtain ⟨hc', hec⟩ := List.getElem?_eq_some_iff.mp hc
        exact (List.getElem_inj (xs := es.map Prod.snd) (h₀ := by simpa using hc') (h₁ := by simpa using hd) nd).mp (by simp [hed, hec, z])
      have := s2 e' (List.mem_of_getElem? hc) e (List.mem_of_getElem? he) hne2
      rcases q with q | q <;> subst q
      · exact this
      · exact this.symm
  · obtain ⟨d, hd⟩ := List.mem_iff_getElem?.mp he
    obtain ⟨f, hf, q⟩ := F.get' hd
    have := hS f (List.mem_of_getElem? hf)
    rcases q with q | q <;> subst q
    · exact this
    · exact this.symm

/-- door d joins x and y -/
def Joins (ds : List (Nat × Nat)) (d x y : Nat) : Prop := ds[d]? = some (x, y) ∨ ds[d]? = some (y, x)
theorem Joins.symm {ds d x y} (j : Joins ds d x y) : Joins ds d y x := Or.symm j
theorem Joins.other {ds d x y z} (j : Joins ds d x y) (k : Joins ds d x z) (hxy : x ≠ y) : y = z := by
  rcases j with j | j <;> rcases k with k | k <;> rw [j] at k <;> cases k
  · rfl
  · exact absurd rfl hxy
  · exact absurd rfl hxy
  · rfl
/-- a way by the doors of the list -/
inductive Walk (ds : List (Nat × Nat)) : Nat → List Nat → Nat → Prop
  | nil (a) : Walk ds a [] a
  | cons {a c b d p} (j : Joins ds d a c) (w : Walk ds c p b) : Walk ds a (d :: p) b
theorem Walk.snoc {ds a p b d c} (w : Walk ds a p b) (j : Joins ds d b c) : Walk ds a (p ++ [d]) c := by
  induction w with
  | nil a => exact .cons j (.nil _)
  | cons j' w ih => exact .cons j' (ih j)
theorem Walk.app {ds a p b q c} (w : Walk ds a p b) (v : Walk ds b q c) : Walk ds a (p ++ q) c := by
  induction w with
  | nil a => exact v
  | cons j' w ih => exact .cons j' (ih v)
theorem Walk.rev {ds a p b} (w : Walk ds a p b) : Walk ds b p.reverse a := by
  induction w with
  | nil a => exact .nil _
  | cons j w ih =>
    rw [List.reverse_cons]
    exact ih.snoc j.symm
theorem Walk.split {ds} {e : Nat} : ∀ {a p b}, Walk ds a p b → e ∈ p → ∃ p1 p2 x y, p = p1 ++ e :: p2 ∧ Walk ds a p1 x ∧ Joins ds e x y ∧ Walk ds y p2 b
  | _, _, _, .nil a, h => by cases h
  | a, d :: p, b, .cons j w, h => by
    by_cases q : e = d
    · subst q
      exact ⟨[], p, a, _, rfl, .nil _, j, w⟩
    · have h' : e ∈ p := (List.mem_cons.mp h).resolve_left q
      obtain ⟨p1, p2, x, y, e1, w1, j1, w2⟩ := Walk.split w h'
      exact ⟨d :: p1, p2, x, y, by rw [e1]; rfl, .cons j w1, j1, w2⟩
section
variable {n : Nat} {ds : List (Nat × Nat)}
theorem side_join {side : Nat → Nat → Bool} (s1 : ∀ d e, ds[d]? = some e → side d e.1 ≠ side d e.2) {d x y : Nat} (j : Joins ds d x y) : side d x ≠ side d y := by
  rcases j with j | j
  · exact s1 _ _ j
  · exact (s1 _ _ j).symm
theorem side_other {side : Nat → Nat → Bool} (s2 : ∀ c d e, ds[d]? = some e → c ≠ d → side c e.1 = side c e.2) {c d x y : Nat} (j : Joins ds d x y) (h : c ≠ d) : side c x = side c y := by
  rcases j with j | j
  · exact s2 _ _ _ j h
  · exact (s2 _ _ _ j h).symm
theorem side_walk {side : Nat → Nat → Bool} (s2 : ∀ c d e, ds[d]? = some e → c ≠ d → side c e.1 = side c e.2) {c : Nat} : ∀ {a p b}, Walk ds a p b → c ∉ p → side c a = side c b
  | _, _, _, .nil a, _ => rfl
  | _, _, _, .cons j w, h => by
    rw [side_other s2 j fun e => h (by rw [e]; exact List.mem_cons_self)]
    exact side_walk s2 w fun m => h (List.mem_cons_of_mem _ m)
theorem side_use {side : Nat → Nat → Bool} (s1 : ∀ d e, ds[d]? = some e → side d e.1 ≠ side d e.2) (s2 : ∀ c d e, ds[d]? = some e → c ≠ d → side c e.1 = side c e.2) {c : Nat} {a p b} (w : Walk ds a p b) (nd : p.Nodup) (h : c ∈ p) : side c a ≠ side c b := by
  obtain ⟨p1, p2, x, y, rfl, w1, j, w2⟩ := w.split h
  obtain ⟨n1, n2, n3⟩ := List.nodup_append.mp nd
  have c1 : c ∉ p1 := fun m => n3 c m c List.mem_cons_self rfl
  have c2 : c ∉ p2 := (List.nodup_cons.mp n2).1
  rw [side_walk s2 w1 c1, ← side_walk s2 w2 c2]
  exact side_join s1 j
theorem way_unique (T : Tree n ds) : ∀ {p q a b}, Walk ds a p b → Walk ds a q b → p.Nodup → q.Nodup → p = q := by
  obtain ⟨side, s1, s2⟩ := T.side
  intro p
  induction p with
  | nil =>
    intro q a b w v np nq
    cases w
    cases v with
    | nil => rfl
    | cons j v => exact absurd rfl (side_use s1 s2 (.cons j v) nq List.mem_cons_self)
  | cons d p ih =>
    intro q a b w v np nq
    have hd := side_use s1 s2 w np List.mem_cons_self
    cases w with
    | @cons _ c _ _ _ j w =>
    cases v with
    | nil => exact absurd rfl hd
    | @cons _ c' _ e q j' v =>
      by_cases hde : d = e
      · subst hde
        have hac : a ≠ c := fun z => side_join s1 j (by rw [z])
        have := j.other j' hac
        subst this
        rw [ih w v (List.nodup_cons.mp np).2 (List.nodup_cons.mp nq).2]
      · exfalso
        have he := side_use s1 s2 (.cons j' v) nq List.mem_cons_self
        have hep : e ∈ p := by
          refine Classical.byContradiction fun hn => he ?_
          rw [side_other s2 j (Ne.symm hde)]
          exact side_walk s2 w hn
        obtain ⟨p1, p2, x, y, rfl, w1, j1, w2⟩ := w.split hep
        have n0 := List.nodup_cons.mp np
        obtain ⟨n1, n2, n3⟩ := List.nodup_append.mp n0.2
        have c1 : e ∉ p1 := fun m => n3 e m e List.mem_cons_self rfl
        have hx : side e x = side e a := by
          rw [← side_walk s2 w1 c1, ← side_other s2 j (Ne.symm hde)]
        have hxa : x = a := by
          rcases j1 with k | k <;> rcases j' with k' | k' <;> rw [k] at k' <;> cases k'
          · rfl
          · exact absurd hx.symm (s1 _ _ k).symm
          · exact absurd hx.symm (s1 _ _ k)
          · rfl
        subst hxa
        have c2 : d ∉ p1 := fun m => n0.1 (List.mem_append.mpr (.inl m))
        exact side_join s1 j (side_walk s2 w1 c2).symm
theorem way_uses (T : Tree n ds) {side : Nat → Nat → Bool} (s1 : ∀ d e, ds[d]? = some e → side d e.1 ≠ side d e.2) (s2 : ∀ c d e, ds[d]? = some e → c ≠ d → side c e.1 = side c e.2) {a p b d} (w : Walk ds a p b) (np : p.Nodup) : d ∈ p ↔ side d a ≠ side d b :=
  ⟨side_use s1 s2 w np, fun h => Classical.byContradiction fun hn => h (side_walk s2 w hn)⟩
theorem Joins.lt (T : Tree n ds) {d x y} (j : Joins ds d x y) : x < n ∧ y < n ∧ d + 1 < n ∧ x ≠ y := by
  obtain ⟨side, s1, s2⟩ := T.side
  have ne : x ≠ y := fun z => side_join s1 j (by rw [z])
  have hl := T.len
  rcases j with j | j
  · have := T.lt _ (List.mem_of_getElem? j)
    have h := (List.getElem?_eq_some_iff.mp j).1
    exact ⟨this.1, this.2, by omega, ne⟩
  · have := T.lt _ (List.mem_of_getElem? j)
    have h := (List.getElem?_eq_some_iff.mp j).1
    exact ⟨this.2, this.1, by omega, ne⟩
end
end K5

namespace K5
structure Uf (n : Nat) (L : List Nat) (rank : Nat → Nat) (R : Nat → Nat → Prop) : Prop where
  len : L.length = n
  at_ : ∀ x y, L[x]? = some y → y < n ∧ R x y ∧ (y ≠ x → rank y < rank x)
theorem get_lt {α : Type} {L : List α} {x : Nat} {y : α} (h : L[x]? = some y) : x < L.length := (List.getElem?_eq_some_iff.mp h).1
theorem get_set {α : Type} {L : List α} {x w : Nat} {z v : α} (h : (L.set x z)[w]? = some v) : (w = x ∧ v = z) ∨ (w ≠ x ∧ L[w]? = some v) := by
  rw [List.getElem?_set] at h
  by_cases e : x = w
  · rw [if_pos e] at h
    split at h
    · exact .inl ⟨e.symm, (Option.some.inj h).symm⟩
    · cases h
  · rw [if_neg e] at h
    exact .inr ⟨fun q => e q.symm, h⟩
theorem Uf.half {n L rank R} (u : Uf n L rank R) (tr : ∀ a b c, R a b → R b c → R a c) {x y z : Nat} (hx : L[x]? = some y) (hy : L[y]? = some z) : Uf n (L.set x z) rank R := by
  refine ⟨by rw [List.length_set]; exact u.len, fun w v h => ?_⟩
  rcases get_set h with ⟨rfl, rfl⟩ | ⟨_, h⟩
  · obtain ⟨a1, a2, a3⟩ := u.at_ _ _ hx
    obtain ⟨b1, b2, b3⟩ := u.at_ _ _ hy
    refine ⟨b1, tr _ _ _ a2 b2, fun ne => ?_⟩
    by_cases e : y = w
    · subst e
      rw [hx] at hy
      exact absurd (Option.some.inj hy).symm ne
    · have := a3 e
      by_cases e2 : v = y
      · subst e2; exact this
      · exact Nat.lt_trans (b3 e2) this
  · exact u.at_ _ _ h
theorem Uf.less {n L rank R} (u : Uf n L rank R) {x y z : Nat} (hx : L[x]? = some y) (hy : L[y]? = some z) (ne : y ≠ x) : rank z < rank x := by
  have h1 := (u.at_ _ _ hx).2.2 ne
  by_cases e : z = y
  · subst e; exact h1
  · exact Nat.lt_trans ((u.at_ _ _ hy).2.2 e) h1
theorem Uf.range (n : Nat) (R : Nat → Nat → Prop) (rf : ∀ a, R a a) : Uf n (List.range n) (fun _ => 0) R := by
  refine ⟨List.length_range, fun x y h => ?_⟩
  have hx : x < n := by simpa using get_lt h
  rw [List.getElem?_range hx] at h
  have e : x = y := Option.some.inj h
  subst e
  exact ⟨hx, rf _, fun z => absurd rfl z⟩
/-- alike for all doors from k on -/
def Rk (side : Nat → Nat → Bool) (k : Nat) (x y : Nat) : Prop := ∀ d, k ≤ d → side d x = side d y
theorem Rk.tr {side k} : ∀ a b c, Rk side k a b → Rk side k b c → Rk side k a c := fun a b c h1 h2 d hd => (h1 d hd).trans (h2 d hd)
theorem Rk.rf {side k} : ∀ a, Rk side k a a := fun a d _ => rfl
theorem Uf.union {n L rank side k} {ds : List (Nat × Nat)} (u : Uf n L rank (Rk side k)) (s1 : ∀ d e, ds[d]? = some e → side d e.1 ≠ side d e.2) (s2 : ∀ c d e, ds[d]? = some e → c ≠ d → side c e.1 = side c e.2)
    {x y ra rb : Nat} (hd : ds[k]? = some (x, y)) (ha : Rk side k x ra) (hb : Rk side k y rb) (hra : L[ra]? = some ra) (hrb : L[rb]? = some rb) :
    Uf n (L.set ra rb) (fun z => rank z + if side k z = side k x then rank rb + 1 else 0) (Rk side (k + 1)) := by
  refine ⟨by rw [List.length_set]; exact u.len, fun w v h => ?_⟩
  have hne : side k x ≠ side k y := s1 _ _ hd
  rcases get_set h with ⟨rfl, rfl⟩ | ⟨_, h⟩
  · refine ⟨(u.at_ _ _ hrb).1, fun d hd' => ?_, fun _ => ?_⟩
    · rw [← ha d (by omega), ← hb d (by omega)]
      exact s2 d k _ hd (by omega)
    · have e1 : side k w = side k x := (ha k (Nat.le_refl _)).symm
      have e2 : ¬ side k v = side k x := fun z => hne (z.symm.trans (hb k (Nat.le_refl _)).symm)
      simp only [e1, if_true, if_neg e2]
      omega
  · obtain ⟨b1, b2, b3⟩ := u.at_ _ _ h
    refine ⟨b1, fun d hd' => b2 d (by omega), fun ne => ?_⟩
    have := b3 ne
    have e : side k w = side k v := b2 k (Nat.le_refl _)
    rw [e]
    omega
theorem ring_no {side : Nat → Nat → Bool} {k} {ds : List (Nat × Nat)} (s1 : ∀ d e, ds[d]? = some e → side d e.1 ≠ side d e.2) {x y r : Nat} (hd : ds[k]? = some (x, y)) (ha : Rk side k x r) (hb : Rk side k y r) : False :=
  s1 _ _ hd ((ha k (Nat.le_refl _)).trans (hb k (Nat.le_refl _)).symm)
end K5

namespace K5
theorem nodup_le : ∀ (n : Nat) (l : List Nat), l.Nodup → (∀ x ∈ l, x < n) → l.length ≤ n
  | 0, [], _, _ => Nat.le_refl _
  | 0, a :: r, _, h => absurd (h a List.mem_cons_self) (Nat.not_lt_zero _)
  | n + 1, l, nd, h => by
    by_cases m : n ∈ l
    · have h1 := nodup_le n (l.erase n) (nd.erase n) fun x hx => by
        have q := (List.Nodup.mem_erase_iff nd).mp hx
        have := h x q.2
        have := q.1
        omega
      rw [List.length_erase_of_mem m] at h1
      have : 0 < l.length := List.length_pos_of_mem m
      omega
    · have h1 := nodup_le n l nd fun x hx => by
        have := h x hx
        have : x ≠ n := fun e => m (e ▸ hx)
        omega
      omega
/-- a search: kl the rooms found, ws those that wait -/
structure Dfs (n : Nat) (ds : List (Nat × Nat)) (shut kl ws : List Nat) : Prop where
  nd : kl.Nodup
  lt : ∀ x ∈ kl, x < n
  sub : ∀ x ∈ ws, x ∈ kl
  cl : ∀ x ∈ kl, x ∉ ws → ∀ d y, Joins ds d x y → d ∉ shut → y ∈ kl
structure DfsIn (n : Nat) (ds : List (Nat × Nat)) (shut kl ws : List Nat) (here : Nat) (don : List (Nat × Nat)) : Prop where
  nd : kl.Nodup
  lt : ∀ x ∈ kl, x < n
  sub : ∀ x ∈ ws, x ∈ kl
  cl : ∀ x ∈ kl, x ∉ ws → x ≠ here → ∀ d y, Joins ds d x y → d ∉ shut → y ∈ kl
  he : here ∈ kl
  dn : ∀ d y, (d, y) ∈ don → d ∉ shut → y ∈ kl
section
variable {n : Nat} {ds : List (Nat × Nat)} {shut kl ws : List Nat} {here : Nat} {don : List (Nat × Nat)}
theorem Dfs.start {x : Nat} (h : x < n) : Dfs n ds shut [x] [x] :=
  ⟨by simp, fun y hy => by rw [List.mem_singleton.mp hy]; exact h, fun y hy => hy, fun y hy hn => absurd hy hn⟩
theorem Dfs.pop (h : Dfs n ds shut kl (ws ++ [here])) : DfsIn n ds shut kl ws here [] :=
  ⟨h.nd, h.lt, fun x m => h.sub x (List.mem_append.mpr (.inl m)), fun x m nw ne d y j ns => h.cl x m (fun q => by
    rcases List.mem_append.mp q with q | q
    · exact nw q
    · exact ne (List.mem_singleton.mp q)) d y j ns, h.sub here (List.mem_append.mpr (.inr (List.mem_singleton.mpr rfl))), fun d y m => nomatch m⟩
theorem DfsIn.skip (h : DfsIn n ds shut kl ws here don) {d y : Nat} (q : d ∈ shut ∨ y ∈ kl) : DfsIn n ds shut kl ws here (don ++ [(d, y)]) :=
  ⟨h.nd, h.lt, h.sub, h.cl, h.he, fun d' y' m ns => by
    rcases List.mem_append.mp m with m | m
    · exact h.dn d' y' m ns
    · cases List.mem_singleton.mp m
      exact q.resolve_left ns⟩
theorem DfsIn.add (h : DfsIn n ds shut kl ws here don) {d y : Nat} (hy : y < n) (nk : y ∉ kl) : DfsIn n ds shut (kl ++ [y]) (ws ++ [y]) here (don ++ [(d, y)]) where
  nd := List.nodup_append.mpr ⟨h.nd, by simp, fun a ha b hb e => by
    rw [List.mem_singleton.mp hb] at e
    exact nk (e ▸ ha)⟩
  lt := fun x m => by
    rcases List.mem_append.mp m with m | m
    · exact h.lt x m
    · rw [List.mem_singleton.mp m]; exact hy
  sub := fun x m => by
    rcases List.mem_append.mp m with m | m
    · exact List.mem_append.mpr (.inl (h.sub x m))
    · exact List.mem_append.mpr (.inr m)
  cl := fun x m nw ne d' y' j ns => by
    rcases List.mem_append.mp m with m | m
    · exact List.mem_append.mpr (.inl (h.cl x m (fun q => nw (List.mem_append.mpr (.inl q))) ne d' y' j ns))
    · exact absurd (List.mem_append.mpr (.inr m)) nw
  he := List.mem_append.mpr (.inl h.he)
  dn := fun d' y' m ns => by
    rcases List.mem_append.mp m with m | m
    · exact List.mem_append.mpr (.inl (h.dn d' y' m ns))
    · cases List.mem_singleton.mp m
      exact List.mem_append.mpr (.inr (List.mem_singleton.mpr rfl))
theorem DfsIn.done (h : DfsIn n ds shut kl ws here don) (all : ∀ d y, Joins ds d here y → (d, y) ∈ don) : Dfs n ds shut kl ws :=
  ⟨h.nd, h.lt, h.sub, fun x m nw d y j ns => by
    by_cases e : x = here
    · subst e
      exact h.dn d y (all d y j) ns
    · exact h.cl x m nw e d y j ns⟩
theorem Dfs.le (h : Dfs n ds shut kl ws) : kl.length ≤ n := nodup_le n kl h.nd h.lt
theorem DfsIn.le (h : DfsIn n ds shut kl ws here don) : kl.length ≤ n := nodup_le n kl h.nd h.lt
/-- in the end: a closed set of rooms; without shut doors it is all -/
theorem Dfs.all (T : Tree n ds) (h : Dfs n ds [] kl []) {x : Nat} (hx : x ∈ kl) : ∀ y, y < n → y ∈ kl := by
  intro y hy
  refine T.conn (fun z => z ∈ kl) (fun e he => ?_) x y (h.lt x hx) hy hx
  obtain ⟨d, hd⟩ := List.mem_iff_getElem?.mp he
  exact ⟨fun m => h.cl _ m (by simp) d _ (.inl hd) (by simp), fun m => h.cl _ m (by simp) d _ (.inr hd) (by simp)⟩
theorem Dfs.walk (h : Dfs n ds shut kl []) : ∀ {x p y}, Walk ds x p y → (∀ d ∈ p, d ∉ shut) → x ∈ kl → y ∈ kl := by
  intro x p y w
  induction w with
  | nil a => intro _ m; exact m
  | cons j w ih => intro ns m; exact ih (fun d hd => ns d (List.mem_cons_of_mem _ hd)) (h.cl _ m (by simp) _ _ j (ns _ List.mem_cons_self))
end
/-- steps towards the beginning -/
structure Ptr (ds : List (Nat × Nat)) (shut : List Nat) (room : Nat) (ks : List (Nat × Option (Nat × Nat))) : Prop where
  st : ∀ x d y, (x, some (d, y)) ∈ ks → Joins ds d x y ∧ d ∉ shut ∧ y ∈ ks.map Prod.fst ∧ (ks.map Prod.fst).idxOf y < (ks.map Prod.fst).idxOf x
  fin : ∀ x, (x, none) ∈ ks → x = room
theorem Ptr.start {ds shut room} : Ptr ds shut room [(room, none)] :=
  ⟨fun x d y m => (by cases List.mem_singleton.mp m), fun x m => (by cases List.mem_singleton.mp m; rfl)⟩
theorem Ptr.add {ds shut room ks} (P : Ptr ds shut room ks) {x d y : Nat} (j : Joins ds d x y) (ns : d ∉ shut) (hy : y ∈ ks.map Prod.fst) (hx : x ∉ ks.map Prod.fst) : Ptr ds shut room (ks ++ [(x, some (d, y))]) := by
  refine ⟨fun x' d' y' m => ?_, fun x' m => ?_⟩
  · rw [List.map_append]
    rcases List.mem_append.mp m with m | m
    · obtain ⟨a, b, c, e⟩ := P.st x' d' y' m
      have hx' : x' ∈ ks.map Prod.fst := List.mem_map.mpr ⟨_, m, rfl⟩
      refine ⟨a, b, List.mem_append.mpr (.inl c), ?_⟩
      rw [List.idxOf_append, if_pos c, List.idxOf_append, if_pos hx']
      exact e
    · cases List.mem_singleton.mp m
      refine ⟨j, ns, List.mem_append.mpr (.inl hy), ?_⟩
      rw [List.idxOf_append, if_pos hy, List.idxOf_append, if_neg hx]
      have := List.idxOf_lt_length_iff.mpr hy
      omega
  · rcases List.mem_append.mp m with m | m
    · exact P.fin x' m
    · cases List.mem_singleton.mp m
/-- the way made so far from a to here along the steps -/
structure Made (ds : List (Nat × Nat)) (kl : List Nat) (a : Nat) (p : List Nat) (here : Nat) : Prop where
  w : Walk ds a p here
  nd : p.Nodup
  up : ∀ d ∈ p, ∀ x y, Joins ds d x y → kl.idxOf here ≤ kl.idxOf x ∧ kl.idxOf here ≤ kl.idxOf y
theorem Made.start {ds kl a} : Made ds kl a [] a := ⟨.nil _, List.nodup_nil, fun _ h => nomatch h⟩
theorem Made.step {ds shut room ks a p here d y} (T : ∃ n, Tree n ds) (M : Made ds (ks.map Prod.fst) a p here) (P : Ptr ds shut room ks) (h : (here, some (d, y)) ∈ ks) : Made ds (ks.map Prod.fst) a (p ++ [d]) y := by
  obtain ⟨j, ns, hy, lt⟩ := P.st here d y h
  refine ⟨M.w.snoc j, ?_, fun d' m x z k => ?_⟩
  · refine List.nodup_append.mpr ⟨M.nd, by simp, fun c hc b hb e => ?_⟩
    rw [List.mem_singleton.mp hb] at e
    subst e
    have := (M.up _ hc here y j).2
    omega
  · rcases List.mem_append.mp m with m | m
    · have := M.up d' m x z k
      omega
    · cases List.mem_singleton.mp m
      obtain ⟨n, T⟩ := T
      rcases j with j | j <;> rcases k with k | k <;> rw [j] at k <;> cases k
      · exact ⟨Nat.le_of_lt lt, Nat.le_refl _⟩
      · exact ⟨Nat.le_refl _, Nat.le_of_lt lt⟩
      · exact ⟨Nat.le_refl _, Nat.le_of_lt lt⟩
      · exact ⟨Nat.le_of_lt lt, Nat.le_refl _⟩
/-- the ways that the law makes: kl with the way to each -/
def Pth (ds : List (Nat × Nat)) (a : Nat) (ks : List (Nat × List Nat)) : Prop :=
  ∀ x p, (x, p) ∈ ks → Walk ds a p x ∧ p.Nodup ∧ ∀ d ∈ p, ∀ u v, Joins ds d u v → u ∈ ks.map Prod.fst ∧ v ∈ ks.map Prod.fst
theorem Pth.start {ds a} : Pth ds a [(a, [])] := fun x p m => by
  cases List.mem_singleton.mp m
  exact ⟨.nil _, List.nodup_nil, fun _ h => nomatch h⟩
theorem Pth.add {ds a ks x y p d} (P : Pth ds a ks) (h : (x, p) ∈ ks) (j : Joins ds d x y) (hy : y ∉ ks.map Prod.fst) : Pth ds a (ks ++ [(y, p ++ [d])]) := by
  intro x' p' m
  rw [List.map_append]
  rcases List.mem_append.mp m with m | m
  · obtain ⟨a, b, c⟩ := P x' p' m
    exact ⟨a, b, fun d hd u v k => ⟨List.mem_append.mpr (.inl (c d hd u v k).1), List.mem_append.mpr (.inl (c d hd u v k).2)⟩⟩
  · cases List.mem_singleton.mp m
    obtain ⟨a, b, c⟩ := P x p h
    have hx : x ∈ ks.map Prod.fst := List.mem_map.mpr ⟨_, h, rfl⟩
    refine ⟨a.snoc j, List.nodup_append.mpr ⟨b, by simp, fun c' hc b' hb e => ?_⟩, fun d' hd u v k => ?_⟩
    · rw [List.mem_singleton.mp hb] at e
      subst e
      exact hy (c _ hc x y j).2
    · rcases List.mem_append.mp hd with hd | hd
      · exact ⟨List.mem_append.mpr (.inl (c d' hd u v k).1), List.mem_append.mpr (.inl (c d' hd u v k).2)⟩
      · cases List.mem_singleton.mp hd
        have e1 := List.mem_append.mpr (.inl hx : x ∈ ks.map Prod.fst ∨ x ∈ [y])
        have e2 : y ∈ ks.map Prod.fst ++ [y] := List.mem_append.mpr (.inr (List.mem_singleton.mpr rfl))
        rcases j with j | j <;> rcases k with k | k <;> rw [j] at k <;> cases k
        · exact ⟨e1, e2⟩
        · exact ⟨e2, e1⟩
        · exact ⟨e2, e1⟩
        · exact ⟨e1, e2⟩
end K5

namespace K5
theorem perm_of_map {α β : Type} (f : α → β) : ∀ (l : List α) (ys : List β), ys.Perm (l.map f) → ∃ l' : List α, ys = l'.map f ∧ l'.Perm l
  | [], ys, h => ⟨[], h.eq_nil, List.Perm.refl _⟩
  | a :: r, ys, h => by
    have ha : f a ∈ ys := h.mem_iff.mpr List.mem_cons_self
    obtain ⟨s, t, rfl⟩ := List.append_of_mem ha
    have h2 : (s ++ t).Perm (r.map f) := (List.perm_middle.symm.trans h).cons_inv
    obtain ⟨r', e, p⟩ := perm_of_map f r _ h2
    refine ⟨r'.take s.length ++ a :: r'.drop s.length, ?_, ?_⟩
    · rw [List.map_append, List.map_cons, List.map_take, List.map_drop, ← e, List.take_left, List.drop_left]
    · have : (r'.take s.length ++ a :: r'.drop s.length).Perm (a :: r') := by
        have q := @List.perm_middle _ a (r'.take s.length) (r'.drop s.length)
        rw [List.take_append_drop] at q
        exact q
      exact this.trans (p.cons a)
theorem Tr0.nv {n : Nat} {es : List (Nat × Nat)} (T : Tr0 n es) {L : List Nat} (p : L.Perm (List.range n)) : Tr0 n (es.map fun e => (L.getD e.1 0, L.getD e.2 0)) := by
  have nd : L.Nodup := p.symm.nodup List.nodup_range
  have hl : L.length = n := by rw [p.length_eq, List.length_range]
  have hm : ∀ y, y ∈ L ↔ y < n := fun y => by rw [p.mem_iff, List.mem_range]
  have gd : ∀ x (h : x < n), L.getD x 0 = L[x]'(by omega) := fun x h => by
    rw [List.getD_eq_getElem?_getD, List.getElem?_eq_getElem (by omega)]
    rfl
  refine T.names (fun x => L.getD x 0) (fun y => L.idxOf y) (fun x h => ?_) (fun x h => ?_) (fun y h => ?_)
  · show L.getD x 0 < n
    rw [gd x h]
    exact (hm _).mp (List.getElem_mem _)
  · show L.idxOf (L.getD x 0) = x
    rw [gd x h]
    exact nd.idxOf_getElem x (by omega)
  · have hy := (hm y).mpr h
    have hi := List.idxOf_lt_length_iff.mpr hy
    refine ⟨by show L.idxOf y < n; omega, ?_⟩
    show L.getD (L.idxOf y) 0 = y
    rw [gd _ (by omega)]
    exact List.getElem_idxOf hi
end K5

/-! rules of our own: powers of any size, enumerate of a tuple, a pair turned by its step, a set made of a list of numbers -/
namespace L2
open PySem PySem.Spec PyProof.Rows
theorem op_powX {X : Cx} : OpR X (binaryOp .Pow) (rI (fun i j => 0 ≤ j ∧ (Builtin.Int.intBits i : Int) * j ≤ 2 ^ 27) fun i j => .int (i ^ j.toNat)) := opI fun _ _ _ _ _ _ _ hc q => pow_int hc.1 hc.2 q

/-! ### enumerate of a tuple: by what its iterator draws (GoesN) -/
def IteT (K : PySem.W.Frag) (a : Addr) : It where
  go i H := ∃ (xs : List V) (x : V), SqT K H a xs ∧ xs[i]? = some x
  yld i H v H' := ∃ T x, v = .ref T ∧ H T = none ∧ H' = upd H T (.tup [.int (i : Nat), x]) ∧ ∀ xs, SqT K H a xs → xs[i]? = some x
  stop i H := ∃ xs : List V, SqT K H a xs ∧ xs.length = i
/-- the three objects differ: their classes do -/
theorem enum_apart {h : Heap} {e it t : Addr} {i : Int} {old : Value} {j : Nat} {items : Array Value} (he : IsEnum h e it i old) (hi : h.IsTupleIter it t j) (ht : h.IsTuple t items) : e ∉ [it, t] ∧ t ≠ it := by
  obtain ⟨o, ho, hc, _⟩ := ht
  obtain ⟨oi, hoi, hci, _⟩ := hi
  have he' : h.get? e = some _ := he
  have n1 : e ≠ t := fun z => by
    rw [z, ho] at he'
    rw [← Option.some.inj he'.symm] at hc
    exact absurd (Value.type.inj hc) (by decide)
  have n2 : t ≠ it := fun z => by
    rw [z, hoi] at ho
    rw [← Option.some.inj ho, hci] at hc
    exact absurd (Value.type.inj hc) (by decide)
  have n3 : e ≠ it := fun z => by
    rw [z, hoi] at he'
    rw [← Option.some.inj he'.symm] at hci
    exact absurd (Value.type.inj hci) (by decide)
  exact ⟨by simp [n1, n3], n2⟩
/-- where the walk stands at its i-th turn -/
def EnT (a e it : Addr) (i : Nat) (h : Heap) : Prop := (∃ old, IsEnum h e it (0 + (i : Int)) old) ∧ h.IsTupleIter it a i ∧ e ≠ it
theorem EnT.lts {a e it : Addr} {i : Nat} {h : Heap} (st : EnT a e it i h) : ∀ b ∈ [e, it], b < h.objs.size := fun b hb => by
  obtain ⟨⟨old, he⟩, ⟨u, hu, _⟩, _⟩ := st
  rcases (List.mem_cons.mp hb : b = e ∨ b ∈ [it]) with z | z
  · exact z ▸ Heap.lt_size he
  · exact (List.mem_singleton.mp z) ▸ Heap.lt_size hu
theorem goesT {prog : Program} {w : World} {A : Around} {elts : List Expr} {kk : Nat} {tpos : Pos} (hh : A.handled = none) {a e it : Addr} {items : Array Value} (ne : e ≠ it) (ap : e ∉ [it, a] ∧ a ≠ it) :
    GoesN prog w A (.Tuple elts kk tpos) e [e, it, a] [e, it] items.size (fun i h0 v h => ∃ T t x, v = .ref T ∧ h0.objs.size ≤ T ∧ items[i]? = some x ∧ h.IsTuple T #[.int (0 + (i : Int)) t, x])
      (fun i h => (∃ old, IsEnum h e it (0 + (i : Int)) old) ∧ h.IsTupleIter it a i ∧ h.IsTuple a items) :=
  GoesN.enumFrom 0 (Draws.tuple (A := A.in1) hh it a ap.2 items) e ne ap.1 (by simp)
theorem turn_enumT {P : Program} {w : World} {K : PySem.W.Frag} {elts : List Expr} {kk : Nat} {tpos : Pos} (a e it : Addr) : Turn P w K (.Tuple elts kk tpos) (IteT K a) [e, it] e (EnT a e it) where
  mem := List.mem_cons_self
  obj := by
    rintro i h ⟨⟨old, he⟩, ⟨u, hu, _, hd⟩, _⟩ b hb
    rcases (List.mem_cons.mp hb : b = e ∨ b ∈ [it]) with rfl | m
    · exact ⟨_, he, by intro v z; cases z⟩
    · rw [List.mem_singleton.mp m]
      exact ⟨u, hu, by intro v z; rw [hd] at z; cases z⟩
  keep := by
    rintro i h h' ⟨⟨old, he⟩, ht, hn⟩ k
    exact ⟨⟨old, k _ List.mem_cons_self _ he⟩, ht.at (k it (List.mem_cons_of_mem _ (List.mem_singleton.mpr rfl))), hn⟩
  item := by
    rintro X rfl rfl rfl calm i pins s σ H E I hf st ⟨xs, x, hq, hx⟩
    have lts := st.lts
    obtain ⟨⟨old, he⟩, ht, hn⟩ := st
    obtain ⟨its, vals, tup, _⟩ := I.tuple hq
    obtain ⟨u, hu, ru⟩ := vals.get hx
    have hu' : its.toArray[i]? = some u := by
      rw [List.getElem?_toArray]
      exact hu
    have len : i < its.toArray.size := (Array.getElem?_eq_some_iff.mp hu').1
    refine (goesT (I.ok.hd calm) hn (enum_apart he ht tup)).goes i s _ _ len ⟨⟨old, he⟩, ht, tup⟩ fun v h' tk hY st' keep _ => ?_
    obtain ⟨T, t, y, rfl, nT, hy, hT⟩ := hY
    cases hu'.symm.trans hy
    have ok : ObjOk X.prog X.w (upd H T (.tup [.int (i : Nat), x])) h' T (.tup [.int (i : Nat), x]) :=
      ⟨by show 2 ≤ sizeLine; decide, [.int (0 + (i : Int)) t, u], .cons ⟨t, by rw [Int.zero_add]⟩ (.cons ru .nil), hT⟩
    refine ⟨.ref T, _, I.turnedNew keep hf nT ok, rfl, ⟨T, x, rfl, I.hok.fresh nT, rfl, fun ys hy => ?_⟩, ⟨st'.1, st'.2.1, hn⟩, fun b hb => ?_⟩
    · rw [I.tuple_inj hy hq]
      exact hx
    · rw [upd_ne (Nat.ne_of_lt (Nat.lt_of_lt_of_le (lts b hb) nT))]
      exact (hf b hb).1
  done := by
    rintro X rfl rfl rfl calm i pins s σ H E I hf ⟨⟨old, he⟩, ht, hn⟩ ⟨xs, hq, rfl⟩
    obtain ⟨its, vals, tup, _⟩ := I.tuple hq
    have sz : its.toArray.size = xs.length := by rw [List.size_toArray, vals.length]
    have g := goesT (prog := X.prog) (w := X.w) (elts := elts) (kk := kk) (tpos := tpos) (items := its.toArray) (I.ok.hd calm) hn (enum_apart he ht tup)
    refine g.stops s _ _ ⟨⟨old, by rw [sz]; exact he⟩, by rw [sz]; exact ht, tup⟩ fun h' tk keep _ => I.turnedL keep hf
  self := by
    rintro A i s Q E ⟨⟨old, he⟩, _⟩ q
    exact wpAny_pyIter_enum he q
/-- the object that enumerate makes over the iterator at i -/
abbrev enumOver (i : Addr) : Obj := { cls := .type "enumerate", data := .fields #[.none, .bool false, .ref i, rawInt 0, .none, .none] }
set_option maxHeartbeats 1200000 in
theorem enum_made {v : Value} {o : Obj} {C : Heap → Prop} (B : Begins v o C) : Meets (Builtin.«enumerate.__new__» ⟨[.type "enumerate", v], []⟩) (fun _ R s =>
    C s.heap ∧ R (.ok (.ret (.ref (s.heap.push o).objs.size))) { s with heap := (s.heap.push o).push (enumOver s.heap.objs.size) }) := by
  refine .of_wp fun prog w A R s ⟨c, h⟩ => ?_
  obtain ⟨hp, gs, dr, tk, os⟩ := s
  have sub := sub_enumerate
  have begun : ∀ {A' : Around} {E Q : Value → Shared → Prop}, Q (.ref hp.objs.size) ⟨hp.push o, gs, dr, tk, os⟩ → wpAny (model prog w) A' (pyIter v) Q E ⟨hp, gs, dr, tk, os⟩ := fun q => B.iter prog w _ _ _ _ c q
  wp_walk using begun
  refine wpAny_stack_any fun _ => ?_
  refine wpAny_pure ?_
  split
  · rename_i k _ _ _ _ _
    cases (k == Value.type "enumerate") <;> (wp_walk using begun; exact ⟨_, rfl, h⟩)
  · wp_walk using begun
    exact ⟨_, rfl, h⟩
theorem enum_call {prog : Program} {w : World} {A : Around} {E : Value → Shared → Prop} {s : Shared} {v : Value} {o : Obj} {C : Heap → Prop} (B : Begins v o C) (c : C s.heap) {Q : Value → Shared → Prop}
    (h : Q (.ref (s.heap.objs.size + 1)) { s with heap := (s.heap.push o).push (enumOver s.heap.objs.size) }) : wpAny (model prog w) A (call (.type "enumerate") [v]) Q E s := by
  have sz : (s.heap.push o).objs.size = s.heap.objs.size + 1 := Heap.size_push ..
  refine callType_new F.called_enumerate (by decide) (F.typeCall_enumerate_1 _) (F.newCall_enumerate_1 _)
    (fun obj => F.args_object_init_2 obj _) F.entry_enumerate_new (enum_made B) ⟨c, ?_⟩
  rw [← sz] at h
  refine ⟨?_, h⟩
  exact ⟨_, Heap.get?_push_size _ rfl, rfl⟩
def iEnumT (K : PySem.W.Frag) (ta : TA) : TI := fun σ H R => ta σ H fun vs H1 => ∃ a xs, vs = [.ref a] ∧ SqT K H1 a xs ∧ R (IteT K a) H1
theorem pi_enumT {X : Cx} {e : Expr} {ta : TA} {p pos tpos : Pos} {elts : List Expr} {kk : Nat} (hg : Gl X "enumerate") (hm : X.mg "enumerate" = none) (ha : PA X [e] ta) (one : starEach [e] X.env = [(false, eval e X.env)] := by rfl) :
    PI X (.Tuple elts kk tpos) (.Call (.Name "enumerate" p) [e] [] pos) (iEnumT X.K ta) := by
  constructor
  intro pins s σ H R I h
  refine Call_ (ld_blt I hg hm boot_enumerate (callWith_type1 (thn (ha.run pos pins s σ H _ I h) ?_) one rfl))
  rintro us s1 ⟨vs, H1, I1, r1, a, xs, rfl, hq, q⟩
  obtain ⟨u, rfl, (ru : u = .ref a)⟩ := vals1 r1
  subst ru
  obtain ⟨its, vals, tup, _⟩ := I1.tuple hq
  refine enum_call (begins_tuple a its.toArray) tup (wpAny_pyIter_enum (i := 0) (old := .none) (it := s1.heap.objs.size) ?_ ?_)
  all_goals have sz : (s1.heap.push { cls := .type "tuple_iterator", data := .fields #[.ref a, .int 0 0] }).objs.size = s1.heap.objs.size + 1 := Heap.size_push ..
  all_goals have get := Heap.get?_push_size (s1.heap.push { cls := .type "tuple_iterator", data := .fields #[.ref a, .int 0 0] }) (o := enumOver s1.heap.objs.size) rfl
  all_goals rw [sz] at get
  · exact get
  · have I2 : Inv X pins σ H1 { s1 with heap := (s1.heap.push { cls := .type "tuple_iterator", data := .fields #[.ref a, .int 0 0] }).push (enumOver s1.heap.objs.size) } :=
      I1.kept (t' := s1.toks) fun b ob k => Heap.get?_push_of_some _ (Heap.get?_push_of_some _ k)
    refine ⟨s1.heap.objs.size + 1, [s1.heap.objs.size + 1, s1.heap.objs.size], _, _, H1, rfl, I2, turn_enumT a _ s1.heap.objs.size, ⟨⟨.none, get⟩, ⟨_, Heap.get?_push_of_some _ (Heap.get?_push_size _ rfl), rfl, rfl⟩, Nat.succ_ne_self _⟩, fun b hb => ?_, q⟩
    have above : s1.heap.objs.size ≤ b := by
      rcases (List.mem_cons.mp hb : b = s1.heap.objs.size + 1 ∨ _) with rfl | m
      · exact Nat.le_succ _
      · exact Nat.le_of_eq (List.mem_singleton.mp m).symm
    exact I1.fpOk above (I1.hok.fresh above)
theorem walk_enumT {K : PySem.W.Frag} {a : Addr} {xs : List V} : Walk (IteT K a) xs.length (fun H => SqT K H a xs) (YPair (fun i => some (.int (i : Nat))) (fun i => xs[i]?)) where
  goes := fun i _ hi q => ⟨xs, _, q, List.getElem?_eq_getElem hi⟩
  stops := fun _ q => ⟨xs, q, rfl⟩
  yields := by
    rintro i H v H' _ q ⟨T, x, e1, e2, e3, e4⟩
    exact ⟨T, _, x, e1, e2, e3, rfl, e4 xs q⟩

/-! ### a pair turned by its step: t[::k], k one or minus one -/
section
variable {prog : Program} {w : World} {A : Around} {s : Shared} {E : Value → Shared → Prop}
/-- the slice object [::k] applied to n items -/
theorem applied_stp {sl : Addr} {vs : Value} {k : Int} {n : Nat} {Q : Int × Int × Nat → Shared → Prop} (hs : s.heap.IsSliceOf sl .none .none vs) (ps : IsPart vs (some k)) (h0 : ¬ (k == 0) = true)
    (h : Q ((Builtin.Slice.sliceAdjust none none k (n : Int)).1, k, Builtin.Slice.slicePlaces (Builtin.Slice.sliceAdjust none none k (n : Int)).1 (Builtin.Slice.sliceAdjust none none k (n : Int)).2 k) s) : wpAny (model prog w) A (Builtin.Slice.sliceApplied (.ref sl) (pure (n : Int))) Q E s := by
  obtain ⟨so, hso, _, dso⟩ := id hs
  delta Builtin.Slice.sliceApplied Builtin.Slice.sliceFields
  have read : ∀ {j : Nat} {y : Value} {α : Type} {f : Value → Sem α} {R : α → Shared → Prop}, #[Value.none, Value.none, vs][j]? = some y → wpAny (model prog w) A (f y) R E s → wpAny (model prog w) A (field (.ref sl) j >>= f) R E s := fun e q => wpAny_bind (wpAny_field hso dso e q)
  refine wpAny_bind (read rfl (read rfl (read rfl (wpAny_pure ?_))))
  refine wpAny_bind (HT.slicePart_ ps ?_)
  show wpAny _ _ (if (k == 0) = true then _ else _) _ _ s
  rw [if_neg h0]
  exact wpAny_bind (HT.slicePart_ .none (wpAny_bind (HT.slicePart_ .none (wpAny_bind (wpAny_pure (wpAny_pure h))))))
theorem pair_stp {t sl : Addr} {x y : Value} {vs : Value} {k : Int} {Q : Value → Shared → Prop} (ht : IsTup s.heap t #[x, y]) (hs : s.heap.IsSliceOf sl .none .none vs) (ps : IsPart vs (some k))
    (h : (k = 1 ∧ Q (.ref t) s) ∨ (k = -1 ∧ Q (.ref s.heap.objs.size) { s with heap := s.heap.push { cls := .type "tuple", data := .seq #[y, x] } })) : wpAny (model prog w) A (getItem (.ref t) (.ref sl)) Q E s := by
  have isS : s.TypeIs (.ref sl) "slice" := let ⟨so, a, b, _⟩ := id hs; ⟨so, a, b⟩
  unfold getItem
  refine wpAny_holding (wpAny_bind (wpAny_sequenceKey ht.typeIs (by decide) (wpAny_bind ?_)))
  refine wpAny_callSpecial?_slot (name := Str.ofString "__getitem__") ht.typeIs slot_tuple_getitem ?_
  refine wpAny_call_entry slot_tuple_getitem ht.typeIs entry_tuple_getitem ?_ (args_tuple_getitem _ _)
  show wpAny _ _ (Builtin.Tuple.tupleItemsOf _ >>= _) _ _ s
  refine wpAny_bind (tupleItemsOf_ ht (wpAny_bind (wpAny_typeOf isS ?_)))
  rw [if_pos (by decide)]
  rcases h with ⟨rfl, h⟩ | ⟨rfl, h⟩ <;> refine wpAny_bind (applied_stp (n := 2) hs ps (by decide) ?_)
  · show wpAny _ _ (if (((0 : Int) == 0 && (1 : Int) == 1 && (2 : Nat) == 2) = true) then _ else _) _ _ s
    rw [if_pos (by decide)]
    have whole : wpAny (model prog w) A.in1 (Builtin.Tuple.tupleIsExact (.ref t)) (fun b s' => b = true ∧ s' = s) (fun _ _ => False) s := by
      show wpAny _ _ (typeOf (.ref t) >>= _) _ _ s
      exact wpAny_bind (wpAny_typeOf ht.typeIs (wpAny_pure ⟨by decide, rfl⟩))
    refine wpAny_bind (wpAny_mono whole ?_ fun _ _ z => z.elim)
    rintro b s' ⟨rfl, rfl⟩
    rw [if_pos rfl]
    first | exact wpAny_bind (wpAny_rule (wpAny_pure ⟨_, rfl, wpAny_pure h⟩)) | exact wpAny_bind (wpAny_rule (wpAny_bind (wpAny_pure (wpAny_pure ⟨_, rfl, wpAny_pure h⟩))))
  · show wpAny _ _ (if (((1 : Int) == 0 && (-1 : Int) == 1 && (2 : Nat) == 2) = true) then _ else _) _ _ s
    rw [if_neg (by decide)]
    have sz : sizeOk (.seq #[y, x]) := by show 2 ≤ sizeLine; decide
    first
      | exact wpAny_bind (m := Builtin.Tuple.tupleExact #[y, x]) (wpAny_newObj_type (wpAny_pure ⟨_, rfl, wpAny_pure h⟩) sz)
      | exact wpAny_bind (m := Builtin.Tuple.tupleExact #[y, x]) (wpAny_newObj_type (wpAny_bind (wpAny_pure (wpAny_pure ⟨_, rfl, wpAny_pure h⟩))) sz)
      | exact wpAny_bind (wpAny_bind (m := Builtin.Tuple.tupleExact #[y, x]) (wpAny_newObj_type (wpAny_pure (wpAny_pure ⟨_, rfl, wpAny_pure h⟩)) sz))
      | exact wpAny_bind (wpAny_bind (m := Builtin.Tuple.tupleExact #[y, x]) (wpAny_newObj_type (wpAny_pure ⟨_, rfl, wpAny_pure h⟩) sz))
end
def tStp (K : PySem.W.Frag) (te tk : TE) : TE := fun σ H Q => te σ H fun x H1 => tk σ H1 fun z H2 => ∃ a u v, x = .ref a ∧ SqT K H2 a [u, v] ∧ ((z = .int 1 ∧ Q (.ref a) H2) ∨ (z = .int (-1) ∧ ∀ p, H2 p = none → Q (.ref p) (upd H2 p (.tup [v, u]))))
theorem no_part {X : Cx} {pins : List (Addr × Obj)} {σ : St} {H : Hp} {s : Shared} {Q : Value → Shared → Prop} (I : Inv X pins σ H s) (h : Q .none s) : wpAny (model X.prog X.w) X.A (evalPart none X.env) Q X.xe s := by
  rw [evalPart_none]
  exact wpAny_pure h
theorem pe_stp {X : Cx} {e st : Expr} {te tk : TE} {p3 pos : Pos} (he : PE X e te) (hk : PE X st tk) (hp : ∀ o i, subscripted (.Slice none none (some st) p3) false o i = operate [o, i] (getItem o i) := by intro _ _; rfl) : PE X (.Subscript e (.Slice none none (some st) p3) pos) (tStp X.K te tk) := by
  constructor
  intro pins s σ H Q I h
  refine Subscript_ (thn (he.run pins s σ H _ I h) ?_)
  rintro v s1 ⟨x, H1, I1, r1, q1⟩
  refine wpAny_Slice (no_part I1 (no_part I1 ?_))
  rw [evalPart_some]
  refine thn (hk.run pins s1 σ H1 _ I1 q1) ?_
  rintro vs s2 ⟨z, H2, I2, rz, a, y1, y2, rfl, hx, q⟩
  obtain rfl : v = .ref a := r1
  have I3 : Inv X pins σ H2 { s2 with heap := s2.heap.push { cls := .type "slice", data := .fields #[.none, .none, vs] } } := I2.kept (t' := s2.toks) fun b ob k => Heap.get?_push_of_some _ k
  obtain ⟨its, r, ht, _⟩ := I3.tuple hx
  obtain ⟨w1, w2, rfl, rw1, rw2⟩ := vals2 r
  have isS := Heap.IsSliceOf.new s2.heap .none .none vs
  have isT : Shared.TypeIs { s2 with heap := s2.heap.push { cls := .type "slice", data := .fields #[.none, .none, vs] } } (.ref a) "tuple" := ht.typeIs
  rcases q with ⟨rfl, q⟩ | ⟨rfl, q⟩ <;> obtain ⟨t, rfl⟩ := rz
  · exact tail_any isT slot_tuple_getitem.lookup (pair_stp ht isS (.int 1 t) (.inl ⟨rfl, .ref a, H2, I3, rfl, q⟩)) (hp _ _)
  · have laid := I3.laid (t' := s2.toks) (o := .tup [y2, y1]) (fun b ob k => Heap.get?_push_of_some { cls := .type "tuple", data := .seq #[w2, w1] } k) (Nat.le_refl _) ⟨by show 2 ≤ sizeLine; decide, [w2, w1], .cons rw2 (.cons rw1 .nil), IsTup.new _ _⟩
    exact tail_any isT slot_tuple_getitem.lookup (pair_stp ht isS (.int (-1) t) (.inr ⟨rfl, .ref _, _, laid, rfl, q _ (I3.hok.fresh (Nat.le_refl _))⟩)) (hp _ _)

/-! ### set(list of ints), k not in it -/
def rSetI (K : PySem.W.Frag) : List V → Hp → VK → Prop := fun xs H Q => ∃ (a : Addr) (ns : List Int), xs = [.ref a] ∧ SqL K H a (ns.map V.int) ∧ ns.length + 1 < scanBound ∧ ∀ p S n, H p = none → (∀ k, S k = decide (k ∈ ns)) → Q (.ref p) (upd H p (.set S n))
theorem getD_any (k : Int) : ∀ ns : List Int, (((List.range ns.length).map fun i => ns.getD i 0).any (· == k)) = decide (k ∈ ns) := by
  intro ns
  have e : ((List.range ns.length).map fun i => ns.getD i 0) = ns := by
    apply List.ext_getElem?
    intro i
    rw [List.getElem?_map]
    by_cases h : i < ns.length
    · rw [List.getElem?_range h, List.getElem?_eq_getElem h]
      simp [List.getD_eq_getElem?_getD, List.getElem?_eq_getElem h]
    · rw [List.getElem?_eq_none (by simpa using Nat.le_of_not_lt h), List.getElem?_eq_none (Nat.le_of_not_lt h)]
      rfl
  rw [e]
  by_cases h : k ∈ ns
  · rw [decide_eq_true h]
    exact List.any_eq_true.mpr ⟨k, h, beq_self_eq_true k⟩
  · rw [decide_eq_false h]
    refine List.any_eq_false.mpr fun x hx hb => h ?_
    rw [← eq_of_beq hb]
    exact hx
theorem cr_setI {X : Cx} (hc : X.calm = true) : CallR X (.type "set") (rSetI X.K) := by
  rintro pins s σ H xs us Q I r ⟨a, ns, rfl, hs, hn, q⟩
  obtain ⟨u, rfl, (ru : u = .ref a)⟩ := vals1 r
  subst ru
  obtain ⟨its, rv, hl, few⟩ := I.list hs
  have len : its.length = ns.length := by rw [← rv.length, List.length_map]
  refine call_set_list (I.ok.hd hc) hl.isList (intsAre_of rv) (by rw [List.size_toArray, len]; exact hn) fun h' tk hS hk => ?_
  have laid := I.laid (t' := tk) (o := .set _ _) (fun b o e => hk b o (Heap.lt_size e) e) (Nat.le_refl _) hS
  refine ⟨.ref _, _, laid, rfl, q _ _ _ (I.hok.fresh (Nat.le_refl _)) fun k => ?_⟩
  rw [firstMet_any, List.size_toArray, len]
  exact getD_any k ns
def rSNotI : V → V → Hp → VK → Prop := fun x y H Q => ∃ k a S n, x = V.int k ∧ y = V.ref a ∧ H a = some (.set S n) ∧ Q (.bl (!S k)) H
theorem op_notset {X : Cx} : OpR X (compareOp .NotIn) rSNotI := by
  rintro pins s σ H x y v u Q I rx ry ⟨k, a, S, n, rfl, rfl, ha, q⟩
  obtain ⟨tk, rfl⟩ := rx
  obtain rfl : u = .ref a := ry
  have at_a : s.heap.SetOf (intKind X.prog X.w) a S n := I.hok a _ ha
  exact wpAny_notInSet_of (intKind_is _ _ _ _) rfl at_a ⟨.bl (!S k), H, I.tok _, rfl, q⟩

/-! a def that the top holds; what a caller uses of it -/
def Def (K : PySem.W.Frag) (mg : Str → Option Value) (x : Str) (st : Stmt) : Prop := ∃ (f : Addr) (fd : FuncData), Fun K x x st f fd ∧ mg x = some (.ref f)
def Cal (P : Program) (w : World) (K : PySem.W.Frag) (mg : Str → Option Value) (base : Heap) (x : Str) (ps : List Str) (k : Nat) (sp : Sp) : Prop :=
  ∃ (f : Addr) (fd : FuncData), mg x = some (.ref f) ∧ PySem.W.keepIn K (.ref f) = true ∧ Binds K fd ps [] ∧ FnOk P w K mg base CX0 k f fd ps sp
theorem Def.ok {P : Program} {w : World} {K : PySem.W.Frag} {mg : Str → Option Value} {base : Heap} {x : Str} {st : Stmt} {N ps : List Str} {k : Nat} {sp : Sp} (D : Def K mg x st) (S : FnScope N ps (defScope st))
    (hb : ∀ (kV doc pm : Value) (an : Option Addr) (cdv ct : Value) (us : List Value), us.length = ps.length → bindArgs (PySem.W.fnOf x x (defArgs st) (defBody st) (defScope st) .none kV doc pm an cdv ct) ⟨us, []⟩ = pure (ps.zip us))
    (ar : ∀ vs H Q E, sp vs H Q E → vs.length = ps.length)
    (hbody : ∀ (f : Addr) (cdv : Value) (A : Around) (outer : List Env) (s : Shared) (H : Hp) (vs : List V) (Q : VK) (E : XK), Room k (A.deeper (envOfC x (defScope st) s.heap.objs.size f cdv)) → sp vs H Q E →
      ∃ t, PSs (cxOf CX0 P w K mg base N x (defScope st) f cdv A outer s H E).nox (defBody st) t ∧ t { nx := fun _ H' => Q .non H', rt := Q } (start N vs) H) : Cal P w K mg base x ps (k + 1) sp := by
  obtain ⟨f, fd, F, m⟩ := D
  exact ⟨f, fd, m, F.kp, F.binds hb, F.ok S ar fun cdv A outer s H vs Q E hr h => hbody f cdv A outer s H vs Q E hr h⟩

/-! heaps -/
/-- all but what stands at a is as it was -/
def But (a : Addr) (H H' : Hp) : Prop := ∀ b o, b ≠ a → H b = some o → H' b = some o
theorem Same.but {a : Addr} {H H' : Hp} (s : Same H H') : But a H H' := fun b o _ e => s b o e
theorem But.trans {a : Addr} {H H1 H2 : Hp} (x : But a H H1) (y : But a H1 H2) : But a H H2 := fun b o n e => y b o n (x b o n e)
theorem Same.upd {H : Hp} {p : Addr} {o : HO} (h : H p = none) : Same H (upd H p o) := fun b x e => by
  rw [upd_ne (ne_of_none e h)]
  exact e
theorem But.upd {a : Addr} {H H' : Hp} (x : But a H H') (o : HO) : But a H (upd H' a o) := fun b u n e => by
  rw [upd_ne n]
  exact x b u n e
/-- what is new at p may change: all that stood in H stands -/
theorem Same.at {H H' : Hp} {p : Addr} {o : HO} (s : Same H H') (h : H p = none) : Same H (L2.upd H' p o) := fun b x e => by
  rw [upd_ne (ne_of_none e h)]
  exact s b x e
theorem But.same {a : Addr} {H0 H H' : Hp} (s : Same H0 H) (n : H0 a = none) (b : But a H H') : Same H0 H' := fun c o e => b c o (ne_of_none e n) (s c o e)
theorem Same.tup {K : PySem.W.Frag} {H H' : Hp} {a : Addr} {xs : List V} (e : Same H H') (h : SqT K H a xs) : SqT K H' a xs := by
  rcases h with (z | ⟨o, z⟩) | z
  · exact .inl (.inl (e _ _ z))
  · exact .inl (.inr ⟨o, e a _ z⟩)
  · exact .inr z
theorem But.tup {K : PySem.W.Frag} {H H' : Hp} {g a : Addr} {xs ys : List V} (e : But g H H') (hg : H g = some (.lst ys)) (h : SqT K H a xs) : SqT K H' a xs := by
  rcases h with (z | ⟨o, z⟩) | z
  · exact .inl (.inl (e _ _ (ne_of z hg (by intro q; cases q)) z))
  · exact .inl (.inr ⟨o, e _ _ (ne_of z hg (by intro q; cases q)) z⟩)
  · exact .inr z
theorem ref_same {H H' : Hp} {a : Addr} {o : HO} (s : Same H H') (h : H a = some o) : H' a = some o := s _ _ h
end L2

/-! own rules: an error that a clause has caught and a local keeps behind the clause; its fields, isinstance of it by its own class -/
namespace L2
open PySem PySem.Spec PyProof.Rows
/-- a caught error, kept: its class, its own dict's address -/
def exk (a : Addr) (cls : Value) (d : Option Addr) : HO :=
  .ext fun g => ∃ ob fs, g.get? a = some ob ∧ Zc cls d ob ∧ ob.data = Data.fields fs
theorem exk_ok {P : Program} {w : World} {H : Hp} {g : Heap} {a : Addr} {cls : Value} {d : Option Addr} {ob : Obj} {fs : Array Value} (e : g.get? a = some ob) (z : Zc cls d ob) (f : ob.data = Data.fields fs) : ObjOk P w H g a (exk a cls d) := by
  refine ⟨⟨ob, fs, e, z, f⟩, ⟨ob, e⟩, ?_⟩
  rintro g1 g2 ⟨ob1, fs1, e1, z1, f1⟩ st
  exact ⟨ob1, fs1, st ob1 e1, z1, f1⟩
theorem exk_at {P : Program} {w : World} {H : Hp} {g : Heap} {a : Addr} {cls : Value} {d : Option Addr} (ok : HOk P w H g) (e : H a = some (exk a cls d)) : ∃ ob fs, g.get? a = some ob ∧ Zc cls d ob ∧ ob.data = Data.fields fs := by
  have z : ObjOk P w H g a (.ext _) := ok a _ e
  exact z.1
section
variable {X : Cx} {H : Hp} {s : Shared} {pins : List (Addr × Obj)} {σ : St}
/-- behind the clause the error is an object of the heap as any other -/
theorem Inv.regain {a : Addr} {cls : Value} {d : Option Addr} {ob : Obj} {fs : Array Value} (I : Inv X pins σ H s) (e : s.heap.get? a = some ob) (z : Zc cls d ob) (f : ob.data = Data.fields fs) (n0 : X.s_0.heap.get? a = none)
    (nl : a ≠ X.env.locals) (np : ∀ p ∈ X.pn ++ pins, p.1 ≠ a) (na : H a = none) : Inv X pins σ (upd H a (exk a cls d)) s where
  ok := I.ok
  os := I.os
  bare := I.bare
  base :=
    { keep := I.base.keep
      slot := I.base.slot
      free := fun b o q n x => by
        have ne : b ≠ a := fun y => by rw [y, n0] at q; cases q
        rw [upd_ne ne]
        exact I.base.free b o q n x
      there := I.base.there
      tups := fun b xs q => by
        have q1 := I.base.tups b xs q
        rw [upd_ne (ne_of_none q1 na)]
        exact q1
      frzs := fun b o u q => by
        have q1 := I.base.frzs b o u q
        rw [upd_ne (ne_of_none q1 na)]
        exact q1
      tbls := fun b ps q => by
        obtain ⟨m, q1⟩ := I.base.tbls b ps q
        rw [upd_ne (ne_of_none q1 na)]
        exact ⟨m, q1⟩ }
  loc := I.loc
  cell := I.cell
  free := by
    rw [upd_ne (Ne.symm nl)]
    exact I.free
  freeC := fun x c q => by
    have ne : c ≠ a := fun y => by
      obtain ⟨v, o, q1, q2⟩ := I.cell x c q
      rw [y, e] at q1
      cases q1
      rw [f] at q2
      exact nomatch q2
    rw [upd_ne ne]
    exact I.freeC x c q
  pin := fun p hp => by
    obtain ⟨q1, q2, q3⟩ := I.pin p hp
    rw [upd_ne (np p hp)]
    exact ⟨q1, q2, q3⟩
  hok := fun b o q => by
    by_cases y : b = a
    · subst y
      rw [upd_same] at q
      cases q
      exact exk_ok e z f
    · rw [upd_ne y] at q
      refine (I.hok b o q).stay (fun _ _ _ r => r) (fun c r => ?_) fun c xs r => ?_
      · rw [upd_ne (ne_of_none r na)]
        exact r
      · rw [upd_ne (ne_of_none r na)]
        exact r
  len := I.len
/-- the wish of the clause 'except x as n', the error kept -/
def wKeep (K : PySem.W.Frag) (c : Value) (i : Nat) (ts : Addr → Value → Option Addr → TS) (Wout : WX) (D : Ends) : WX := fun cls d σ H =>
  ∃ y, PySem.W.exmOne K cls c = some y ∧ (y = false → Wout cls d σ H) ∧ (y = true → ∀ a, H a = none →
    ts a cls d ⟨fun σ1 H1 => D.nx (σ1.set i none) (upd H1 a (exk a cls d)), fun v H1 => D.rt v (upd H1 a (exk a cls d)), fun σ1 H1 => D.bk (σ1.set i none) (upd H1 a (exk a cls d)), fun σ1 H1 => D.ct (σ1.set i none) (upd H1 a (exk a cls d))⟩ (σ.set i (some (.ref a))) H)

variable {x n : Str} {c : Value} {i : Nat} {work suite : List Stmt} {st0 : Stmt} {np q1 q2 : Pos} {tw : WX → TS} {ts : Addr → Value → Option Addr → TS} {Wout : WX}
/-- try: work / except x as n: suite, the error kept behind it -/
theorem ps_try_keep (e1 : X.stack = X.env :: X.outer) (e2 : X.env.frame = some X.env.locals) (e3 : X.ex = []) (nd : X.N.Nodup) (ni : X.N[i]? = some n) (nk : X.env.kindOf n = some .local) (nm : Names X x c) (tk : Takes X Wout)
    (W1 : ∀ (W : WX) (pn : List (Addr × Obj)) (xe : Value → Shared → Prop), Takes (X.tr pn xe) W → PassesOwn (model X.prog X.w) X.A X.env xe → PSs (X.tr pn xe) work (tw W))
    (W2 : ∀ (a : Addr) (ob : Obj) (cls : Value) (d : Option Addr) (pn : List (Addr × Obj)), Zc cls d ob → (∃ fs, ob.data = .fields fs) → PSs (X.suite a ((a, ob) :: pn)) (st0 :: suite) (ts a cls d)) :
    PS X (.Try work [.ExceptHandler (some (.Name x np)) (some n) (st0 :: suite) q1] [] [] q2) (fun D σ H => tw (wKeep X.K c i ts Wout D) D σ H) := by
  constructor
  intro pins s σ H D I h
  have ok := I.ok
  have frm : X.A.frames = some (X.env :: X.outer) := ok.frames.trans (congrArg some e1)
  apply wpAny_Try_except
  have caught : ∀ (xe0 : Value → Shared → Prop) (er : Value) (s9 : Shared), XE (X.tr (X.pn ++ pins) xe0) (wKeep X.K c i ts Wout D) er s9 →
      wpAny (model X.prog X.w) X.A (noteFrame er X.env) (fun _ s₂ => wpAny (model X.prog X.w) X.A (setFlight er none) (fun _ s₃ =>
        wpAny (model X.prog X.w) X.A (handleBy er X.env [.ExceptHandler (some (.Name x np)) (some n) (st0 :: suite) q1]) (SP X pins D) X.xe s₃) X.xe s₂) X.xe s9 := by
    rintro xe0 er s9 ⟨a, B, sI, pins1, σ1, H1, cls, d, rfl, J0, nb, up, sky, na, os, ag, y, ey, no, yes⟩
    have J1 : Inv X pins σ1 H1 sI := J0.ofTry ok
    have sky1 : Sky B (X.env :: X.outer) a (Zc cls d) X.env.locals s9.heap := e1 ▸ sky
    refine Sky.land Zc.steady frm e2 sky1 fun g3 fl3 up3 => ?_
    have J3 : Inv X pins σ1 H1 { s9 with heap := g3 } := J1.landed nb fl3.1 (up.trans up3) os ag
    obtain ⟨ob3, fs3, at3, z3, d3⟩ := fl3.there
    have off : ∀ {g : Heap} {ob : Obj} {fs : Array Value}, g.FunFrames B (X.env :: X.outer) → g.get? a = some ob → ob.data = Data.fields fs → a ∉ frs (X.env :: X.outer) := by
      intro g ob fs ff q r m
      obtain ⟨_, o1, r1, r2⟩ := ff.mem m
      rw [q] at r1
      cases r1
      exact r2 _ r
    have n1 := off fl3.2.2.1 at3 d3
    have nL : a ≠ X.env.locals := by
      intro y
      refine n1 (List.mem_filterMap.mpr ⟨X.env, List.mem_cons_self, ?_⟩)
      rw [e2, y]
    have nF : a ∉ X.fs := by
      intro m
      obtain ⟨v, m1, m2⟩ := List.mem_filterMap.mp m
      exact n1 (List.mem_filterMap.mpr ⟨v, List.mem_cons_of_mem _ m1, m2⟩)
    -- the error is new: it stood neither in the state at the raise nor at the def's start
    have nI : sI.heap.get? a = none := by
      cases q : sI.heap.get? a with
      | none => rfl
      | some o =>
        have r := nb a o q (by rw [e1]; exact n1)
        rw [fl3.2.1] at r
        cases r
    have unborn : X.s_0.heap.get? a = none := by
      cases q : X.s_0.heap.get? a with
      | none => rfl
      | some o =>
        obtain ⟨o1, r⟩ := J1.base.there a o q (by rw [e3]; simp)
        rw [nI] at r
        cases r
    have nP : ∀ p ∈ X.pn ++ pins, p.1 ≠ a := by
      intro p m y
      obtain ⟨r, _⟩ := J1.pin p m
      rw [y, nI] at r
      cases r
    have S3 := J3.suite at3 d3 na nL nF
    refine wpAny_handleBy_cons (codeAny_handlers_test ?_) (fun q => by cases q)
    have lt : PySem.W.Looks (model X.prog X.w) g3 (typeOf (.ref a)) cls := by
      intro A Q E sx k q
      refine wpAny_typeOf_ref (k _ _ at3) ?_
      rw [z3.1]
      exact q
    have lm := PySem.W.exm_one (M := model X.prog X.w) J3.kIn lt ey
    have named : ∀ {Q : Value → Shared → Prop} {E : Value → Shared → Prop}, Q c { s9 with heap := g3 } → wpAny (model X.prog X.w) (X.A.mark (some (.ref a))) (eval (.Name x np) X.env) Q E { s9 with heap := g3 } := by
      intro Q E q
      obtain ⟨m1, m2, m3⟩ := nm
      rcases m3 with m3 | ⟨m3, m4, m5⟩
      · exact ld_glob (X := X.suite a ((a, ob3) :: (X.pn ++ pins))) S3 m1 m3 q m2
      · exact ld_blt (X := X.suite a ((a, ob3) :: (X.pn ++ pins))) S3 m1 m3 m4 q m5 m2
    apply named
    apply lm.here
    cases y with
    | true =>
      apply codeAny_handlers_suite_as
      refine HandSPX.lands_againZ fl3 fun g4 fl4 up4 => ?_
      have J4 : Inv X pins σ1 H1 { s9 with heap := g4 } := J1.landed nb fl4.1 ((up.trans up3).trans up4) os ag
      obtain ⟨ob4, fs4, at4, z4, d4⟩ := fl4.there
      have S4 := J4.suite at4 d4 na nL nF
      refine store_ok (X := X.suite a ((a, ob4) :: (X.pn ++ pins))) (v := .ref a) S4 nd ni (.inl nk) rfl (fun s5 S5 => ?_) (.inr nk)
      refine wpAny_mono ((W2 a ob4 cls d (X.pn ++ pins) z4 ⟨_, d4⟩).run [] s5 _ H1 _ S5 (yes rfl a na)) (fun f s6 sp6 => ?_) (fun _ _ z => z.elim)
      have past : ∀ {σ6 : St} {H6 : Hp} {G : Shared → Prop}, Inv (X.suite a ((a, ob4) :: (X.pn ++ pins))) [] σ6 H6 s6 → (∀ s7, Inv X pins (σ6.set i none) (upd H6 a (exk a cls d)) s7 → G s7) →
          wpAny (model X.prog X.w) X.A (do bindName X.env n .none; unbindBehindTheSuite X.env n q1) (fun _ s7 => G s7) X.xe s6 := by
        intro σ6 H6 G S6 g
        obtain ⟨p1, p2, _⟩ := S6.pin (a, ob4) (List.mem_append_left _ List.mem_cons_self)
        exact gone_ok ((S6.unsuite ok).regain p1 z4 d4 unborn nL nP p2) nd ni nk g
      cases f with
      | next =>
        obtain ⟨σ6, H6, S6, r⟩ := sp6
        exact past S6 fun s7 J7 => ⟨_, _, J7, r⟩
      | brk =>
        obtain ⟨σ6, H6, S6, r⟩ := sp6
        exact past S6 fun s7 J7 => ⟨_, _, J7, r⟩
      | cont =>
        obtain ⟨σ6, H6, S6, r⟩ := sp6
        exact past S6 fun s7 J7 => ⟨_, _, J7, r⟩
      | ret u =>
        obtain ⟨v6, σ6, H6, S6, rr, r⟩ := sp6
        exact past S6 fun s7 J7 => ⟨_, _, _, J7, rr, r⟩
    | false =>
      change wpAny _ X.A (handleBy (.ref a) X.env []) _ _ _
      apply wpAny_handleBy_nil
      obtain ⟨_, _, _, ob, fs, T, oT, ts', at_e, z_e, d_e, f_e, r_e⟩ := id fl3
      unfold PySem.passOn
      refine wpAny_bind (wpAny_field at_e d_e f_e ?_)
      rw [if_neg (by simp)]
      have onward : wpAny (model X.prog X.w) X.A (setFlight (.ref a) X.env.frame) (fun _ s4 => wpAny (model X.prog X.w) X.A (throw (.ref a) : Sem Flow) (SP X pins D) X.xe s4) X.xe { s9 with heap := g3 } := by
        rw [e2]
        refine HandSPX.setFlight_upZ fl3 fun g4 hh4 up4 => wpAny_throw (tk _ _ ⟨a, B, sI, pins, σ1, H1, cls, d, rfl, J1, nb, (up.trans up3).trans up4, .inr (.inr ?_), na, os, ag, no rfl⟩)
        rw [e1]
        exact hh4
      first
        | exact wpAny_bind (wpAny_pure (wpAny_bind onward))
        | exact wpAny_bind onward
  refine wpAny_mono ((W1 (wKeep X.K c i ts Wout D) (X.pn ++ pins) _ (fun u s9 xx => caught _ u s9 xx) PassesOwn.looking).run [] s σ H D (I.toTry _) h) (fun f s9 sp => ?_) (fun e s9 he => he)
  cases f with
  | next =>
    obtain ⟨σ1, H1, J1, q⟩ := sp
    exact wpAny_execs_nil ⟨σ1, H1, J1.ofTry ok, q⟩
  | brk =>
    obtain ⟨σ1, H1, J1, q⟩ := sp
    exact ⟨σ1, H1, J1.ofTry ok, q⟩
  | cont =>
    obtain ⟨σ1, H1, J1, q⟩ := sp
    exact ⟨σ1, H1, J1.ofTry ok, q⟩
  | ret u =>
    obtain ⟨v, σ1, H1, J1, r, q⟩ := sp
    exact ⟨v, σ1, H1, J1.ofTry ok, r, q⟩

/-- err.f, err a kept error of the class at C -/
def tKf (C : Addr) (f : Str) (te : TE) : TE := fun σ H Q => te σ H fun v H1 => ∃ (a d : Addr) (fs : List (Str × V)) (y : V), v = .ref a ∧ H1 a = some (exk a (.ref C) (some d)) ∧ H1 d = some (.xd fs) ∧ fs.lookup f = some y ∧ Q y H1
theorem pe_kf {C : Addr} {e : Expr} {te : TE} {pos : Pos} {f : Str} (T : XfC X.K C) (no : PySem.W.findIn X.K (.ref C) f = some none) (he : PE X e te) (hb : attributeBase e f X.env (eval e X.env) = eval e X.env := by rfl) : PE X (.Attribute e f pos) (tKf C f te) := by
  constructor
  intro pins s σ H Q I h
  refine attr_of hb (thn (he.run pins s σ H _ I h) ?_)
  rintro u s1 ⟨v, H1, I1, rv, a, d, fs, y, rfl, ha, hd, l, q⟩
  obtain rfl : u = Value.ref a := rv
  obtain ⟨ob, vs, g1, z, g2⟩ := exk_at I1.hok ha
  have od1 : ObjOk X.prog X.w H1 s1.heap d (.xd fs) := I1.hok d _ hd
  obtain ⟨m, ns, rl⟩ := od1
  obtain ⟨od, o1, o2⟩ := lookIn_ns ns
  have rl' := rl f
  rw [l] at rl'
  obtain ⟨u, hu, ru⟩ := RelO.some_of (v := y) (o := m f) rl'
  have J : PySem.W.InstAt s1.heap a ob C (some od) := by
    refine ⟨g1, z.1, ?_, ?_⟩
    · unfold PySem.W.notCls
      rw [g2] <;> rfl
    · rw [z.2]
      exact o1
  refine HandSPX.exc_get I1.kIn J T.ga T.gg T.exC (PySem.W.findObj_own T.hdC no rfl ?_) (handed_of ru) ⟨y, H1, I1.tok _, ru, q⟩
  rw [o2, hu]

/-- isinstance(err, C), err of just that class -/
def rIsK (C : Addr) : List V → Hp → VK → Prop := fun xs H Q => ∃ (a : Addr) (d : Option Addr), xs = [.ref a, .ref C] ∧ H a = some (exk a (.ref C) d) ∧ Q (.bl true) H
theorem answers_self {a : Addr} {c : Value} : Answers (fun s => ∃ ob, s.heap.get? a = some ob ∧ ob.cls = c) (.ref a) c true := by
  intro dep tk prog w A R s hs
  obtain ⟨g, g2, d, tt, os⟩ := s
  obtain ⟨⟨ob, e, z⟩, q⟩ := hs
  have lt : PySem.W.Looks (model prog w) g (typeOf (.ref a)) c := by
    intro A Q E sx k q
    refine wpAny_typeOf_ref (k _ _ e) ?_
    rw [z]
    exact q
  (unfold Builtin.«isinstance.nested»)
  refine wpAny_bind (lt.at ?_)
  rw [if_pos (beq_self_eq_true c)]
  first
    | exact wpAny_bind (wpAny_rule (q tt))
    | exact wpAny_bind (wpAny_rule (wpAny_pure (q tt)))
    | exact wpAny_pure (q tt)
theorem call_isK {C : Addr} : CallR X (.builtin "isinstance") (rIsK C) := by
  rintro pins s σ H xs us Q I r ⟨a, d, rfl, e, q⟩
  obtain ⟨y1, y2, rfl, ry1, ry2⟩ := vals2 r
  obtain rfl : y1 = Value.ref a := ry1
  obtain rfl : y2 = Value.ref C := ry2
  obtain ⟨ob, vs, g1, z, g2⟩ := exk_at I.hok e
  exact call_isinstance (S := fun _ R s => (∃ ob, s.heap.get? a = some ob ∧ ob.cls = .ref C) ∧ ∀ tk, R (.ok (.ret (.bool true))) { s with toks := tk })
    (fun prog w A R s hs => isinstance_outer (answers_self 0 _ prog w A R s hs) (fun z => nomatch z)) ⟨⟨ob, g1, z.1⟩, fun tk => ⟨.bl true, H, I.tok tk, rfl, q⟩⟩
end
end L2

namespace K5
open PySem PySem.Spec PyProof.Rows L2
def top (i : Nat) : Stmt := PySem.Challenge.pw_lastthrough_k06_moves_and_plans.main.body.getD i (.Pass ⟨0, 0, 0, 0⟩)
abbrev s_is_whole : Stmt := top 8
abbrev N_is_whole : List Str := ["value"]
theorem sc_is_whole : FnScope N_is_whole ["value"] (defScope s_is_whole) := ⟨rfl, rfl, rfl, by decide +kernel, rfl, by decide +kernel, by decide +kernel⟩
abbrev s_is_index : Stmt := top 9
abbrev N_is_index : List Str := ["value", "count"]
theorem sc_is_index : FnScope N_is_index ["value", "count"] (defScope s_is_index) := ⟨rfl, rfl, rfl, by decide +kernel, rfl, by decide +kernel, by decide +kernel⟩
abbrev s_is_door : Stmt := top 10
abbrev N_is_door : List Str := ["value", "count", "a", "b"]
theorem sc_is_door : FnScope N_is_door ["value", "count"] (defScope s_is_door) := ⟨rfl, rfl, rfl, by decide +kernel, rfl, by decide +kernel, by decide +kernel⟩
abbrev s_check_house : Stmt := top 11
abbrev N_check_house : List Str := ["value", "door", "ends", "ring"]
theorem sc_check_house : FnScope N_check_house ["value"] (defScope s_check_house) := ⟨rfl, rfl, rfl, by decide +kernel, rfl, by decide +kernel, by decide +kernel⟩
abbrev s_first_ring : Stmt := top 12
abbrev N_first_ring : List Str := ["doors", "links", "door", "a", "b", "a_root", "b_root"]
theorem sc_first_ring : FnScope N_first_ring ["doors"] (defScope s_first_ring) := ⟨rfl, rfl, rfl, by decide +kernel, rfl, by decide +kernel, by decide +kernel⟩
abbrev s_find_root : Stmt := top 13
abbrev N_find_root : List Str := ["links", "room"]
theorem sc_find_root : FnScope N_find_root ["links", "room"] (defScope s_find_root) := ⟨rfl, rfl, rfl, by decide +kernel, rfl, by decide +kernel, by decide +kernel⟩
abbrev s_need_house : Stmt := top 14
abbrev N_need_house : List Str := ["house", "reason"]
theorem sc_need_house : FnScope N_need_house ["house"] (defScope s_need_house) := ⟨rfl, rfl, rfl, by decide +kernel, rfl, by decide +kernel, by decide +kernel⟩
abbrev s_doors_by_ends : Stmt := top 15
abbrev N_doors_by_ends : List Str := ["house", "doors", "door", "a", "b"]
theorem sc_doors_by_ends : FnScope N_doors_by_ends ["house"] (defScope s_doors_by_ends) := ⟨rfl, rfl, rfl, by decide +kernel, rfl, by decide +kernel, by decide +kernel⟩
abbrev s_has_state_shape : Stmt := top 17
abbrev N_has_state_shape : List Str := ["house", "value", "rooms", "barred"]
theorem sc_has_state_shape : FnScope N_has_state_shape ["house", "value"] (defScope s_has_state_shape) := ⟨rfl, rfl, rfl, by decide +kernel, rfl, by decide +kernel, by decide +kernel⟩
abbrev s_check_state : Stmt := top 18
abbrev N_check_state : List Str := ["house", "value", "rooms", "barred", "person", "room", "door"]
theorem sc_check_state : FnScope N_check_state ["house", "value"] (defScope s_check_state) := ⟨rfl, rfl, rfl, by decide +kernel, rfl, by decide +kernel, by decide +kernel⟩
abbrev s_is_move : Stmt := top 19
abbrev N_is_move : List Str := ["doors", "people", "value", "person", "start", "end"]
theorem sc_is_move : FnScope N_is_move ["doors", "people", "value"] (defScope s_is_move) := ⟨rfl, rfl, rfl, by decide +kernel, rfl, by decide +kernel, by decide +kernel⟩
abbrev s_check_plan : Stmt := top 20
abbrev N_check_plan : List Str := ["house", "people", "value", "doors", "index", "move"]
theorem sc_check_plan : FnScope N_check_plan ["house", "people", "value"] (defScope s_check_plan) := ⟨rfl, rfl, rfl, by decide +kernel, rfl, by decide +kernel, by decide +kernel⟩
abbrev s_need_people : Stmt := top 21
abbrev N_need_people : List Str := ["people"]
theorem sc_need_people : FnScope N_need_people ["people"] (defScope s_need_people) := ⟨rfl, rfl, rfl, by decide +kernel, rfl, by decide +kernel, by decide +kernel⟩
abbrev s_need_state : Stmt := top 22
abbrev N_need_state : List Str := ["house", "state", "reason"]
theorem sc_need_state : FnScope N_need_state ["house", "state"] (defScope s_need_state) := ⟨rfl, rfl, rfl, by decide +kernel, rfl, by decide +kernel, by decide +kernel⟩
abbrev s_need_plan : Stmt := top 23
abbrev N_need_plan : List Str := ["house", "people", "plan", "reason"]
theorem sc_need_plan : FnScope N_need_plan ["house", "people", "plan"] (defScope s_need_plan) := ⟨rfl, rfl, rfl, by decide +kernel, rfl, by decide +kernel, by decide +kernel⟩
abbrev s_possible_moves : Stmt := top 24
abbrev N_possible_moves : List Str := ["house", "state", "rooms", "barred", "moves", "door", "a", "b", "person", "room"]
theorem sc_possible_moves : FnScope N_possible_moves ["house", "state"] (defScope s_possible_moves) := ⟨rfl, rfl, rfl, by decide +kernel, rfl, by decide +kernel, by decide +kernel⟩
abbrev s_played : Stmt := top 25
abbrev N_played : List Str := ["doors", "state", "plan", "rooms", "barred", "index", "person", "start", "end", "door"]
theorem sc_played : FnScope N_played ["doors", "state", "plan"] (defScope s_played) := ⟨rfl, rfl, rfl, by decide +kernel, rfl, by decide +kernel, by decide +kernel⟩
abbrev s_play : Stmt := top 26
abbrev N_play : List Str := ["house", "state", "plan"]
theorem sc_play : FnScope N_play ["house", "state", "plan"] (defScope s_play) := ⟨rfl, rfl, rfl, by decide +kernel, rfl, by decide +kernel, by decide +kernel⟩
abbrev s_l_cell : Stmt := top 28
abbrev N_l_cell : List Str := ["_law_script", "_law_index"]
theorem sc_l_cell : FnScope N_l_cell ["_law_script", "_law_index"] (defScope s_l_cell) := ⟨rfl, rfl, rfl, by decide +kernel, rfl, by decide +kernel, by decide +kernel⟩
abbrev s_l_hash : Stmt := top 29
abbrev N_l_hash : List Str := ["_law_seed", "_law_index", "_law_mixed"]
theorem sc_l_hash : FnScope N_l_hash ["_law_seed", "_law_index"] (defScope s_l_hash) := ⟨rfl, rfl, rfl, by decide +kernel, rfl, by decide +kernel, by decide +kernel⟩
abbrev s_l_generator : Stmt := top 30
abbrev N_l_generator : List Str := ["_law_script", "_law_index", "_law_seed"]
theorem sc_l_generator : FnScope N_l_generator ["_law_script", "_law_index"] (defScope s_l_generator) := ⟨rfl, rfl, rfl, by decide +kernel, rfl, by decide +kernel, by decide +kernel⟩
abbrev s_l_random : Stmt := top 31
abbrev N_l_random : List Str := ["_law_generator_here", "_law_bound", "_law_drawn", "_law_part"]
theorem sc_l_random : FnScope N_l_random ["_law_generator_here", "_law_bound"] (defScope s_l_random) := ⟨rfl, rfl, rfl, by decide +kernel, rfl, by decide +kernel, by decide +kernel⟩
abbrev s_l_shuffled : Stmt := top 32
abbrev N_l_shuffled : List Str := ["_law_generator_here", "_law_items", "_law_pool", "_law_item"]
theorem sc_l_shuffled : FnScope N_l_shuffled ["_law_generator_here", "_law_items"] (defScope s_l_shuffled) := ⟨rfl, rfl, rfl, by decide +kernel, rfl, by decide +kernel, by decide +kernel⟩
abbrev s_l_random_house : Stmt := top 33
abbrev N_l_random_house : List Str := ["_law_generator_here", "_law_most", "_law_size", "_law_kind", "_law_doors", "_law_room", "_law_other", "_law_names", "_law_renamed", "_law_one", "_law_ends"]
theorem sc_l_random_house : FnScope N_l_random_house ["_law_generator_here", "_law_most"] (defScope s_l_random_house) := ⟨rfl, rfl, rfl, by decide +kernel, rfl, by decide +kernel, by decide +kernel⟩
abbrev s_l_random_state : Stmt := top 34
abbrev N_l_random_state : List Str := ["_law_generator_here", "_law_doors", "_law_people", "_law_size", "_law_spread", "_law_places", "_law_person", "_law_door"]
theorem sc_l_random_state : FnScope N_l_random_state ["_law_generator_here", "_law_doors", "_law_people"] (defScope s_l_random_state) := ⟨rfl, rfl, rfl, by decide +kernel, rfl, by decide +kernel, by decide +kernel⟩
abbrev s_l_neighbours : Stmt := top 35
abbrev N_l_neighbours : List Str := ["_law_doors", "_law_place", "_law_found", "_law_index", "_law_ends"]
theorem sc_l_neighbours : FnScope N_l_neighbours ["_law_doors", "_law_place"] (defScope s_l_neighbours) := ⟨rfl, rfl, rfl, by decide +kernel, rfl, by decide +kernel, by decide +kernel⟩
abbrev s_l_moved : Stmt := top 36
abbrev N_l_moved : List Str := ["_law_doors", "_law_position", "_law_step", "_law_person", "_law_start", "_law_end", "_law_places", "_law_bars", "_law_index", "_law_other", "_law_number", "_law_new_places"]
theorem sc_l_moved : FnScope N_l_moved ["_law_doors", "_law_position", "_law_step"] (defScope s_l_moved) := ⟨rfl, rfl, rfl, by decide +kernel, rfl, by decide +kernel, by decide +kernel⟩
abbrev s_l_steps : Stmt := top 37
abbrev N_l_steps : List Str := ["_law_doors", "_law_position", "_law_steps_here", "_law_person", "_law_place", "_law_other", "_law_index"]
theorem sc_l_steps : FnScope N_l_steps ["_law_doors", "_law_position"] (defScope s_l_steps) := ⟨rfl, rfl, rfl, by decide +kernel, rfl, by decide +kernel, by decide +kernel⟩
abbrev s_l_random_steps : Stmt := top 38
abbrev N_l_random_steps : List Str := ["_law_generator_here", "_law_doors", "_law_position", "_law_most", "_law_steps_here", "_law_attempt", "_law_allowed", "_law_step"]
theorem sc_l_random_steps : FnScope N_l_random_steps ["_law_generator_here", "_law_doors", "_law_position", "_law_most"] (defScope s_l_random_steps) := ⟨rfl, rfl, rfl, by decide +kernel, rfl, by decide +kernel, by decide +kernel⟩
abbrev s_l_every_step : Stmt := top 39
abbrev N_l_every_step : List Str := ["_law_doors", "_law_people", "_law_steps_here", "_law_person", "_law_one", "_law_other"]
theorem sc_l_every_step : FnScope N_l_every_step ["_law_doors", "_law_people"] (defScope s_l_every_step) := ⟨rfl, rfl, rfl, by decide +kernel, rfl, by decide +kernel, by decide +kernel⟩
abbrev s_l_expected : Stmt := top 40
abbrev N_l_expected : List Str := ["_law_doors", "_law_position", "_law_steps_here", "_law_index", "_law_step", "_law_word"]
theorem sc_l_expected : FnScope N_l_expected ["_law_doors", "_law_position", "_law_steps_here"] (defScope s_l_expected) := ⟨rfl, rfl, rfl, by decide +kernel, rfl, by decide +kernel, by decide +kernel⟩
abbrev s_l_result : Stmt := top 41
abbrev N_l_result : List Str := ["_law_doors", "_law_position", "_law_steps_here", "_law_error", "_law_result_here", "e"]
theorem sc_l_result : FnScope N_l_result ["_law_doors", "_law_position", "_law_steps_here"] (defScope s_l_result) := ⟨rfl, rfl, rfl, by decide +kernel, rfl, by decide +kernel, by decide +kernel⟩
abbrev s_l_reason : Stmt := top 42
abbrev N_l_reason : List Str := ["_law_doors", "_law_position", "_law_steps_here", "_law_error", "e"]
theorem sc_l_reason : FnScope N_l_reason ["_law_doors", "_law_position", "_law_steps_here"] (defScope s_l_reason) := ⟨rfl, rfl, rfl, by decide +kernel, rfl, by decide +kernel, by decide +kernel⟩
abbrev s_l_right : Stmt := top 43
abbrev N_l_right : List Str := ["_law_generator_here", "_law_doors", "_law_position", "_law_people", "_law_steps_here", "_law_final", "_law_every", "_law_attempt", "_law_index", "_law_changed", "_law_before", "_law_current", "_law_told", "_law_result_here"]
theorem sc_l_right : FnScope N_l_right ["_law_generator_here", "_law_doors", "_law_position"] (defScope s_l_right) := ⟨rfl, rfl, rfl, by decide +kernel, rfl, by decide +kernel, by decide +kernel⟩
abbrev s_law : Stmt := top 44
abbrev N_law : List Str := ["_law_script", "_law_index", "_law_generator_here", "_law_doors", "_law_attempt", "_law_position"]
theorem sc_law : FnScope N_law ["_law_script"] (defScope s_law) := ⟨rfl, rfl, rfl, by decide +kernel, rfl, by decide +kernel, by decide +kernel⟩
/-- the built-ins that the text calls stand as they were -/
structure Bl (mg : Str → Option Value) : Prop where
  len : mg "len" = none
  isinstance : mg "isinstance" = none
  enumerate : mg "enumerate" = none
  range : mg "range" = none
  list : mg "list" = none
  set : mg "set" = none
  sorted : mg "sorted" = none
  max : mg "max" = none
  min : mg "min" = none
  tuple : mg "tuple" = none
  int : mg "int" = none
  bool : mg "bool" = none

/-- a house at a: a tuple of tuples -/
def HouseAt (K : PySem.W.Frag) (H : Hp) (a : Addr) (ds : List (Nat × Nat)) : Prop :=
  ∃ rs : List Addr, SqT K H a (rs.map V.ref) ∧ rs.length = ds.length ∧ ∀ (d : Nat) (r : Addr) (e : Nat × Nat), rs[d]? = some r → ds[d]? = some e → SqT K H r [.int e.1, .int e.2]
section
variable {K : PySem.W.Frag} {H H' : Hp} {a g : Addr} {ds : List (Nat × Nat)}
theorem HouseAt.same (h : HouseAt K H a ds) (s : Same H H') : HouseAt K H' a ds := by
  obtain ⟨rs, h1, h2, h3⟩ := h
  exact ⟨rs, s.tup h1, h2, fun d r e x y => s.tup (h3 d r e x y)⟩
theorem HouseAt.but {xs : List V} (h : HouseAt K H a ds) (hg : H g = some (.lst xs)) (s : But g H H') : HouseAt K H' a ds := by
  obtain ⟨rs, h1, h2, h3⟩ := h
  exact ⟨rs, s.tup hg h1, h2, fun d r e x y => s.tup hg (h3 d r e x y)⟩
theorem ty_tup {xs : List V} (h : SqT K H a xs) : TyX K H (.ref a) (.type "tuple") := by
  rcases h with (h | ⟨o, h⟩) | ⟨o, its, n, h, c, _⟩
  · exact .base (.tup h)
  · exact .fTuple h
  · exact .kTuple h c
end
end K5

namespace K5
open PySem PySem.Spec PyProof.Rows L2
def spWhole : Sp := fun vs H Q _ => ∃ i : Int, vs = [.int i] ∧ Q (.bl true) H
def spIndex : Sp := fun vs H Q _ => ∃ i n : Int, vs = [.int i, .int n] ∧ Q (.bl (decide (0 ≤ i ∧ i < n))) H
def spDoor (K : PySem.W.Frag) : Sp := fun vs H Q _ => ∃ (a : Addr) (x y n : Int), vs = [.ref a, .int n] ∧ SqT K H a [.int x, .int y] ∧ (0 ≤ x ∧ x < n) ∧ (0 ≤ y ∧ y < n) ∧ x ≠ y ∧ Q (.bl true) H
section
variable {P : Program} {w : World} {K : PySem.W.Frag}
      {mg : Str → Option Value} {base : Heap}
theorem ok_is_whole (T : Bl mg) (D : Def K mg "is_whole" s_is_whole) : Cal P w K mg base "is_whole" ["value"] 1 spWhole := by
  refine D.ok sc_is_whole (fun _ _ _ _ _ _ us hl => match us, hl with | [_], _ => rfl) (fun vs H Q E h => ?_) (fun f cdv A outer s H vs Q E hr h => ?_)
  · obtain ⟨i, rfl, _⟩ := h
    rfl
  obtain ⟨i, rfl, q⟩ := h
  refine ⟨_, (pss_one (ps_ret (pe_and (pe_callB call_isi (by rfl) T.isinstance (by decide +kernel) (pa_cons (pv 0) (pa_cons (pe_bltn (v := .ty "int") (u := .type "int") (by rfl) T.int (by decide +kernel) rfl) pa_nil))) (pe_one (pe_not (pe_callB call_isi (by rfl) T.isinstance (by decide +kernel) (pa_cons (pv 0) (pa_cons (pe_bltn (v := .ty "bool") (u := .type "bool") (by rfl) T.bool (by decide +kernel) rfl) pa_nil)))))))), ?_⟩
  refine ⟨_, rfl, _, _, _, _, _, rfl, .ty _, .base (.int _), kit_ty (r := true) (by decide +kernel), _, rfl, iteT ?_⟩
  refine ⟨_, rfl, _, _, _, _, _, rfl, .ty _, .base (.int _), kit_ty (r := false) (by decide +kernel), _, rfl, q⟩
theorem ok_is_index (T : Bl mg) (D : Def K mg "is_index" s_is_index) (C_is_whole : Cal P w K mg base "is_whole" ["value"] 1 spWhole) : Cal P w K mg base "is_index" ["value", "count"] 2 spIndex := by
  refine D.ok sc_is_index (fun _ _ _ _ _ _ us hl => match us, hl with | [_, _], _ => rfl) (fun vs H Q E h => ?_) (fun f cdv A outer s H vs Q E hr h => ?_)
  · obtain ⟨i, n, rfl, _⟩ := h
    rfl
  obtain ⟨i, n, rfl, q⟩ := h
  obtain ⟨f_is_whole, fd_is_whole, g_is_whole, k_is_whole, b_is_whole, G_is_whole⟩ := C_is_whole
  refine ⟨_, (pss_one (ps_ret (pe_and (pe_call G_is_whole (hr.mono (by decide)) (by rfl) g_is_whole k_is_whole b_is_whole .nil pass0 (pa_cons (pv 0) pa_nil)) (pe_one (pe_chain op_le op_lt pe_int (pv 0) (pv 1)))))), ?_⟩
  refine ⟨_, rfl, _, rfl, _, rfl, iteT ?_⟩
  refine ⟨_, rfl, _, _, rfl, rfl, _, rfl, ite2 (fun h => ?_) (fun h => ?_)⟩
  · have h := of_decide_eq_true h
    refine ⟨_, rfl, _, _, rfl, rfl, ?_⟩
    have e : decide (i < n) = decide (0 ≤ i ∧ i < n) := by simp [h]
    show Q (.bl (decide (i < n))) H
    rw [e]
    exact q
  · have e : false = decide (0 ≤ i ∧ i < n) := by
      have h : ¬ 0 ≤ i := fun z => h (decide_eq_true z)
      simp [h]
    show Q (.bl false) H
    rw [e]
    exact q
theorem ok_is_door (T : Bl mg) (D : Def K mg "is_door" s_is_door) (C_is_index : Cal P w K mg base "is_index" ["value", "count"] 2 spIndex) : Cal P w K mg base "is_door" ["value", "count"] 3 (spDoor K) := by
  refine D.ok sc_is_door (fun _ _ _ _ _ _ us hl => match us, hl with | [_, _], _ => rfl) (fun vs H Q E h => ?_) (fun f cdv A outer s H vs Q E hr h => ?_)
  · obtain ⟨a, x, y, n, rfl, _⟩ := h
    rfl
  obtain ⟨a, x, y, n, rfl, ht, hx, hy, hne, q⟩ := h
  obtain ⟨f_is_index, fd_is_index, g_is_index, k_is_index, b_is_index, G_is_index⟩ := C_is_index
  refine ⟨_, (pss_cons (ps_if (PW.pt (pw_or (pt_not (pt_val (pe_callB call_isi (by rfl) T.isinstance (by decide +kernel) (pa_cons (pv 0) (pa_cons (pe_bltn (v := .ty "tuple") (u := .type "tuple") (by rfl) T.tuple (by decide +kernel) rfl) pa_nil))))) (pw_or1 (pt_cmpR op_ne (pe_callB call_len_seq (by rfl) T.len PySem.boot_len (pa_cons (pv 0) pa_nil)) pe_int (nomark _))))) (pss_one (ps_ret pe_bl)) pss_nil)
    (pss_cons (ps_asg (pv 0) (pg_tup (n := 2) rfl (pgs_cons (pg_name (i := 2) sc_is_door.nd rfl (.inl rfl)) (pgs_cons (pg_name (i := 3) sc_is_door.nd rfl (.inl rfl)) pgs_nil))))
    (pss_one (ps_ret (pe_and (pe_call G_is_index (hr.mono (by decide)) (by rfl) g_is_index k_is_index b_is_index .nil pass0 (pa_cons (pv 2) (pa_cons (pv 1) pa_nil))) (pe_and (pe_call G_is_index (hr.mono (by decide)) (by rfl) g_is_index k_is_index b_is_index .nil pass0 (pa_cons (pv 3) (pa_cons (pv 1) pa_nil))) (pe_one (pe_cmpR op_ne (pv 2) (pv 3) (nomark _))))))))), ?_⟩
  refine ⟨_, rfl, _, _, _, _, _, rfl, .ty _, ty_tup ht, kit_ty (r := true) (by decide +kernel), _, rfl, iteF ?_⟩
  refine ⟨_, rfl, _, _, rfl, .inr ht, rfl, _, rfl, iteF ?_⟩
  refine ⟨_, rfl, _, _, rfl, ht, rfl, _, _, rfl, _, _, rfl, rfl, ?_⟩
  refine ⟨_, rfl, _, rfl, _, _, rfl, _, rfl, ?_⟩
  rw [decide_eq_true hx]
  refine iteT ⟨_, rfl, _, rfl, _, _, rfl, _, rfl, ?_⟩
  rw [decide_eq_true hy]
  refine iteT ⟨_, rfl, _, rfl, rfl, ?_⟩
  rw [decide_eq_false (show ¬ V.int x = V.int y from fun z => hne (V.int.inj z))]
  exact q
end
end K5

namespace K5
open PySem PySem.Spec PyProof.Rows L2
/-- a list of numbers as values -/
def nv (L : List Nat) : List V := L.map fun (x : Nat) => V.int (x : Int)
theorem nv_len (L : List Nat) : (nv L).length = L.length := by unfold nv; rw [List.length_map]
theorem nv_get {L : List Nat} {x y : Nat} (h : L[x]? = some y) : (nv L)[x]? = some (.int (y : Int)) := by
  unfold nv
  rw [List.getElem?_map, h]
  rfl
theorem nv_set (L : List Nat) (x y : Nat) : (nv L).set x (.int (y : Int)) = nv (L.set x y) := by
  unfold nv
  rw [List.map_set]
theorem nv_at {L : List Nat} {x y : Nat} (h : L[x]? = some y) : atI (nv L) (x : Int) = some (.int (y : Int)) := atI_nat (nv_get h)
theorem ixN_nat {n x : Nat} (h : x < n) : ixN n (x : Int) = some x := by
  unfold ixN
  rw [if_pos (by omega), if_pos (by omega), Int.toNat_natCast]
theorem upd_self {H : Hp} {p : Addr} {o : HO} (h : H p = some o) : upd H p o = H := by
  funext b
  unfold upd
  by_cases e : b = p
  · rw [if_pos e, e, h]
  · rw [if_neg e]
theorem get_of {α : Type} {L : List α} {n x : Nat} (h : L.length = n) (hx : x < n) : ∃ y, L[x]? = some y := ⟨_, List.getElem?_eq_getElem (h ▸ hx)⟩
theorem rgV_nat (n : Nat) : rgV 0 (n : Int) = nv (List.range n) := by
  unfold rgV nv
  rw [show ((n : Int) - 0).toNat = n by omega]
  apply List.map_congr_left
  intro i _
  rw [Int.zero_add]
theorem dec_ne {i j : Int} (h : i ≠ j) : decide (V.int i = V.int j) = false := decide_eq_false fun z => h (V.int.inj z)
theorem dec_eq (i : Int) : decide (V.int i = V.int i) = true := decide_eq_true rfl
def spFind : Sp := fun vs H Q _ => ∃ (p : Addr) (L : List Nat) (n : Nat) (rank : Nat → Nat) (R : Nat → Nat → Prop) (room : Nat), vs = [.ref p, .int (room : Int)] ∧ H p = some (.lst (nv L)) ∧ Uf n L rank R ∧
  (∀ a b c, R a b → R b c → R a c) ∧ (∀ a, R a a) ∧ room < n ∧ ∀ (L' : List Nat) (r : Nat), Uf n L' rank R → R room r → L'[r]? = some r → (∀ x : Nat, L[x]? = some x → L'[x]? = some x) → Q (.int (r : Nat)) (upd H p (.lst (nv L')))
def spRing (K : PySem.W.Frag) : Sp := fun vs H Q _ => ∃ (a : Addr) (ds : List (Nat × Nat)) (n : Nat), vs = [.ref a] ∧ HouseAt K H a ds ∧ Tree n ds ∧ n ≤ 1000 ∧ ∀ H', Same H H' → Q .non H'
section
variable {P : Program} {w : World} {K : PySem.W.Frag}
      {mg : Str → Option Value} {base : Heap}
theorem ok_find_root (T : Bl mg) (D : Def K mg "find_root" s_find_root) : Cal P w K mg base "find_root" ["links", "room"] 1 spFind := by
  refine D.ok sc_find_root (fun _ _ _ _ _ _ us hl => match us, hl with | [_, _], _ => rfl) (fun vs H Q E h => ?_) (fun f cdv A outer s H vs Q E hr h => ?_)
  · obtain ⟨p, L, n, rank, R, room, rfl, _⟩ := h
    rfl
  obtain ⟨p, L, n, rank, R, room, rfl, hp, u, tr, rf, hlt, q⟩ := h
  refine ⟨_, (pss_cons (ps_while PassesOwn.never (pt_cmpR op_ne (pe_ix ix_list (pv 0) (pv 1) (fun _ _ => rfl)) (pv 1) (nomark _)) (pss_cons (ps_asg (pe_ix ix_list (pv 0) (pe_ix ix_list (pv 0) (pv 1) (fun _ _ => rfl)) (fun _ _ => rfl)) (pg_sub (pv 0) (pv 1) set_list))
    (pss_one (ps_set (i := 1) sc_find_root.nd rfl (.inl rfl) (pe_ix ix_list (pv 0) (pv 1) (fun _ _ => rfl))))))
    (pss_one (ps_ret (pv 1)))), ?_⟩
  refine ⟨fun m σ H1 => ∃ (L1 : List Nat) (r : Nat), m = rank r ∧ σ = [some (.ref p), some (.int (r : Nat))] ∧ H1 = upd H p (.lst (nv L1)) ∧ Uf n L1 rank R ∧ R room r ∧ r < n ∧ ∀ x : Nat, L[x]? = some x → L1[x]? = some x, ⟨rank room, L, room, rfl, rfl, (upd_self hp).symm, u, rf _, hlt, fun _ h => h⟩, fun m σ H1 hW => ?_⟩
  obtain ⟨L1, r, rfl, rfl, rfl, u1, rr, hr1, ro⟩ := hW
  obtain ⟨y, hy⟩ := get_of u1.len hr1
  refine ⟨_, rfl, _, rfl, _, _, _, _, rfl, rfl, SqL.of upd_same, nv_at hy, _, rfl, rfl, _, rfl, ?_⟩
  by_cases e : y = r
  · subst e
    rw [dec_eq]
    exact iteF ⟨_, rfl, q L1 y u1 rr hy ro⟩
  · rw [dec_ne (by omega)]
    obtain ⟨z, hz⟩ := get_of u1.len (u1.at_ _ _ hy).1
    refine iteT ⟨fun σ' H' => ∃ (L2 : List Nat) (r2 : Nat), rank r2 < rank r ∧ σ' = [some (.ref p), some (.int (r2 : Nat))] ∧ H' = upd H p (.lst (nv L2)) ∧ Uf n L2 rank R ∧ R room r2 ∧ r2 < n ∧ ∀ x : Nat, L[x]? = some x → L2[x]? = some x, fun σ' H' ⟨L2, r2, h1, h2⟩ => ⟨_, h1, L2, r2, rfl, h2⟩, ?_⟩
    refine ⟨_, rfl, _, rfl, _, rfl, _, _, _, _, rfl, rfl, SqL.of upd_same, nv_at hy, _, _, _, _, rfl, rfl, SqL.of upd_same, nv_at hz, ?_⟩
    refine ⟨_, rfl, _, rfl, _, _, _, r, rfl, rfl, upd_same, ixN_nat (by rw [nv_len, u1.len]; exact hr1), ?_⟩
    rw [upd_upd, nv_set]
    have hz' : (L1.set r z)[r]? = some z := by
      rw [List.getElem?_set_self (by rw [u1.len]; exact hr1)]
    refine ⟨_, rfl, _, rfl, _, _, _, _, rfl, rfl, SqL.of upd_same, nv_at hz', ?_⟩
    have a1 := u1.at_ _ _ hy
    have a2 := u1.at_ _ _ hz
    refine ⟨L1.set r z, z, u1.less hy hz e, rfl, rfl, u1.half tr hy hz, tr _ _ _ rr (tr _ _ _ a1.2.1 a2.2.1), a2.1, fun x hx => ?_⟩
    have h1 := ro x hx
    have ne : r ≠ x := fun z => by
      subst z
      rw [h1] at hy
      exact e (Option.some.inj hy).symm
    rw [List.getElem?_set_ne ne]
    exact h1
theorem ok_first_ring (T : Bl mg) (D : Def K mg "first_ring" s_first_ring) (C_find_root : Cal P w K mg base "find_root" ["links", "room"] 1 spFind) : Cal P w K mg base "first_ring" ["doors"] 2 (spRing K) := by
  refine D.ok sc_first_ring (fun _ _ _ _ _ _ us hl => match us, hl with | [_], _ => rfl) (fun vs H Q E h => ?_) (fun f cdv A outer s H vs Q E hr h => ?_)
  · obtain ⟨a, ds, n, rfl, _⟩ := h
    rfl
  obtain ⟨a, ds, n, rfl, hH, tree, hn, q⟩ := h
  obtain ⟨rs, hrs, hlen, hds⟩ := id hH
  obtain ⟨side, s1, s2⟩ := tree.side
  have hdn := tree.len
  obtain ⟨f_find_root, fd_find_root, g_find_root, k_find_root, b_find_root, G_find_root⟩ := C_find_root
  refine ⟨_, (pss_cons (ps_set (i := 1) sc_first_ring.nd rfl (.inl rfl) (pe_listRg rfl (by rfl) T.list (prg_1 (by rfl) T.range (pe_op op_add (pe_callB call_len_seq (by rfl) T.len PySem.boot_len (pa_cons (pv 0) pa_nil)) pe_int))))
    (pss_cons (ps_for PassesOwn.never rfl (pi_enumT (by rfl) T.enumerate (pa_cons (pv 0) pa_nil)) (pg_tup (n := 2) rfl (pgs_cons (pg_name (i := 2) sc_first_ring.nd rfl (.inl rfl)) (pgs_cons (pg_tup (n := 2) rfl (pgs_cons (pg_name (i := 3) sc_first_ring.nd rfl (.inl rfl)) (pgs_cons (pg_name (i := 4) sc_first_ring.nd rfl (.inl rfl)) pgs_nil))) pgs_nil)))
    (pss_cons (ps_set (i := 5) sc_first_ring.nd rfl (.inl rfl) (pe_call G_find_root (hr.mono (by decide)) (by rfl) g_find_root k_find_root b_find_root .nil pass0 (pa_cons (pv 1) (pa_cons (pv 3) pa_nil))))
    (pss_cons (ps_set (i := 6) sc_first_ring.nd rfl (.inl rfl) (pe_call G_find_root (hr.mono (by decide)) (by rfl) g_find_root k_find_root b_find_root .nil pass0 (pa_cons (pv 1) (pa_cons (pv 4) pa_nil))))
    (pss_cons (ps_if (pt_cmpR op_eq (pv 5) (pv 6) (nomark _)) (pss_one (ps_ret (pv 2))) pss_nil)
    (pss_one (ps_asg (pv 6) (pg_sub (pv 1) (pv 5) set_list)))))))
    (pss_one (ps_ret pe_non)))), ?_⟩
  have e1 : (((rs.map V.ref).length : Nat) : Int) + 1 = ((n : Nat) : Int) := by
    rw [List.length_map, hlen]
    omega
  refine ⟨_, rfl, _, _, rfl, .inr hrs, _, _, rfl, rfl, _, rfl, .of_le (Int.le_refl _) (by omega) (by omega) (by omega), fun q0 nq => ?_⟩
  rw [e1, rgV_nat]
  refine ⟨_, rfl, a, _, rfl, (Same.upd nq).tup hrs, ?_⟩
  refine for_it (walk_enumT (K := K) (a := a) (xs := rs.map V.ref)) (fun k σ H1 => ∃ L rank y2 y3 y4 y5 y6, σ = [some (.ref a), some (.ref q0), y2, y3, y4, y5, y6] ∧ Same H H1 ∧ H1 q0 = some (.lst (nv L)) ∧ Uf n L rank (Rk side k))
    ⟨_, _, _, _, _, _, _, rfl, Same.upd nq, upd_same, Uf.range n _ Rk.rf⟩ (fun i σ H1 _ ⟨_, _, _, _, _, _, _, _, sm, _⟩ => sm.tup hrs) ?_ ?_
  · rintro k x σ H1 H2 hk ⟨L, rank, y2, y3, y4, y5, y6, rfl, sm, hq0, u⟩ ⟨t, x1, x2, rfl, nt, rfl, ex1, ex2⟩
    cases ex1
    have hk' : k < ds.length := by
      rw [List.length_map, hlen] at hk
      exact hk
    obtain ⟨e, he⟩ : ∃ e, ds[k]? = some e := get_of rfl hk'
    obtain ⟨r, hr0⟩ : ∃ r, rs[k]? = some r := get_of hlen hk'
    have ex2' : V.ref r = x2 := by
      have ex2 : (rs.map V.ref)[k]? = some x2 := ex2
      rw [List.getElem?_map, hr0] at ex2
      exact Option.some.inj ex2
    subst ex2'
    have sm2 : Same H1 (upd H1 t (.tup [.int (k : Nat), .ref r])) := Same.upd nt
    have hrd := sm2.tup (sm.tup (hds k r e hr0 he))
    have hq2 := sm2 _ _ hq0
    have elt := tree.lt e (List.mem_of_getElem? he)
    refine ⟨t, _, rfl, SqT.of upd_same, rfl, _, _, rfl, _, _, rfl, ⟨r, _, rfl, hrd, rfl, _, _, rfl, _, _, rfl, rfl, rfl, ?_⟩⟩
    refine ⟨_, rfl, _, rfl, q0, L, n, rank, Rk side k, e.1, rfl, hq2, u, Rk.tr, Rk.rf, elt.1, fun L1 ra u1 hra rta _ => ?_⟩
    refine ⟨_, rfl, _, rfl, q0, L1, n, rank, Rk side k, e.2, rfl, upd_same, u1, Rk.tr, Rk.rf, elt.2, fun L2 rb u2 hrb rtb ro2 => ?_⟩
    rw [upd_upd]
    refine ⟨_, rfl, _, rfl, rfl, _, rfl, ?_⟩
    have nab : ra ≠ rb := fun z => ring_no s1 he hra (z ▸ hrb)
    show if decide (V.int (ra : Int) = V.int (rb : Int)) = true then _ else _
    rw [dec_ne (by omega)]
    refine iteF ?_
    have rta2 := ro2 ra rta
    refine ⟨_, rfl, _, rfl, _, rfl, _, _, _, ra, rfl, rfl, upd_same, ixN_nat (by rw [nv_len]; exact get_lt rta2), ?_⟩
    rw [upd_upd, nv_set]
    exact ⟨_, _, _, _, _, _, _, rfl, (sm.trans sm2).at nq, upd_same, u2.union s1 s2 he hra hrb rta2 rtb⟩
  · rintro σ H1 ⟨L, rank, y2, y3, y4, y5, y6, rfl, sm, hq0, u⟩
    exact q H1 sm
end
end K5

namespace K5
open PySem PySem.Spec PyProof.Rows L2
def spNeedRoom (K : PySem.W.Frag) : Sp := fun vs H Q _ => ∃ (a : Addr) (ds : List (Nat × Nat)) (x : Int), vs = [.ref a, .int x] ∧ HouseAt K H a ds ∧ 0 ≤ x ∧ x < ds.length + 1 ∧ Q .non H
def spNeedDoor (K : PySem.W.Frag) : Sp := fun vs H Q _ => ∃ (a : Addr) (ds : List (Nat × Nat)) (x : Int), vs = [.ref a, .int x] ∧ HouseAt K H a ds ∧ 0 ≤ x ∧ x < ds.length ∧ Q .non H
section
variable {P : Program} {w : World} {K : PySem.W.Frag}
      {mg : Str → Option Value} {base : Heap}
theorem ok_check_house (T : Bl mg) (D : Def K mg "check_house" s_check_house) (C_is_door : Cal P w K mg base "is_door" ["value", "count"] 3 (spDoor K)) (C_first_ring : Cal P w K mg base "first_ring" ["doors"] 2 (spRing K)) :
    Cal P w K mg base "check_house" ["value"] 4 (spRing K) := by
  refine D.ok sc_check_house (fun _ _ _ _ _ _ us hl => match us, hl with | [_], _ => rfl) (fun vs H Q E h => ?_) (fun f cdv A outer s H vs Q E hr h => ?_)
  · obtain ⟨a, ds, n, rfl, _⟩ := h
    rfl
  obtain ⟨a, ds, n, rfl, hH, tree, hn, q⟩ := h
  obtain ⟨rs, hrs, hlen, hds⟩ := id hH
  have hdn := tree.len
  obtain ⟨f_is_door, fd_is_door, g_is_door, k_is_door, b_is_door, G_is_door⟩ := C_is_door
  obtain ⟨f_first_ring, fd_first_ring, g_first_ring, k_first_ring, b_first_ring, G_first_ring⟩ := C_first_ring
  refine ⟨_, (pss_cons (ps_if (pt_not (pt_val (pe_callB call_isi (by rfl) T.isinstance (by decide +kernel) (pa_cons (pv 0) (pa_cons (pe_bltn (v := .ty "tuple") (u := .type "tuple") (by rfl) T.tuple (by decide +kernel) rfl) pa_nil))))) (pss_one (ps_ret (pe_tup (pa_cons pe_str pa_nil)))) pss_nil)
    (pss_cons (ps_for PassesOwn.never rfl (pi_enumT (by rfl) T.enumerate (pa_cons (pv 0) pa_nil)) (pg_tup (n := 2) rfl (pgs_cons (pg_name (i := 1) sc_check_house.nd rfl (.inl rfl)) (pgs_cons (pg_name (i := 2) sc_check_house.nd rfl (.inl rfl)) pgs_nil)))
    (pss_one (ps_if (pt_not (pt_val (pe_call G_is_door (hr.mono (by decide)) (by rfl) g_is_door k_is_door b_is_door .nil pass0 (pa_cons (pv 2) (pa_cons (pe_op op_add (pe_callB call_len_seq (by rfl) T.len PySem.boot_len (pa_cons (pv 0) pa_nil)) pe_int) pa_nil))))) (pss_one (ps_ret (pe_tup (pa_cons pe_str (pa_cons (pv 1) pa_nil))))) pss_nil)))
    (pss_cons (ps_set (i := 3) sc_check_house.nd rfl (.inl rfl) (pe_call G_first_ring (hr.mono (by decide)) (by rfl) g_first_ring k_first_ring b_first_ring .nil pass0 (pa_cons (pv 0) pa_nil)))
    (pss_cons (ps_if (pt_cmpR op_notN (pv 3) pe_non (nomark _)) (pss_one (ps_ret (pe_tup (pa_cons pe_str (pa_cons (pv 3) pa_nil))))) pss_nil)
    (pss_one (ps_ret pe_non)))))), ?_⟩
  refine ⟨_, rfl, _, _, _, _, _, rfl, .ty _, ty_tup hrs, kit_ty (r := true) (by decide +kernel), _, rfl, iteF ?_⟩
  refine ⟨_, rfl, a, _, rfl, hrs, ?_⟩
  refine for_it (walk_enumT (K := K) (a := a) (xs := rs.map V.ref)) (fun k σ H1 => ∃ y1 y2 y3, σ = [some (.ref a), y1, y2, y3] ∧ Same H H1)
    ⟨_, _, _, rfl, Same.refl _⟩ (fun i σ H1 _ ⟨_, _, _, _, sm⟩ => sm.tup hrs) ?_ ?_
  · rintro k x σ H1 H2 hk ⟨y1, y2, y3, rfl, sm⟩ ⟨t, x1, x2, rfl, nt, rfl, ex1, ex2⟩
    cases ex1
    have hk' : k < ds.length := by
      rw [List.length_map, hlen] at hk
      exact hk
    obtain ⟨e, he⟩ : ∃ e, ds[k]? = some e := get_of rfl hk'
    obtain ⟨r, hr0⟩ : ∃ r, rs[k]? = some r := get_of hlen hk'
    have ex2' : V.ref r = x2 := by
      have ex2 : (rs.map V.ref)[k]? = some x2 := ex2
      rw [List.getElem?_map, hr0] at ex2
      exact Option.some.inj ex2
    subst ex2'
    have sm2 : Same H1 (upd H1 t (.tup [.int (k : Nat), .ref r])) := Same.upd nt
    have sm3 := sm.trans sm2
    have elt := tree.lt e (List.mem_of_getElem? he)
    obtain ⟨side, s1, s2⟩ := tree.side
    have ene : e.1 ≠ e.2 := fun z => s1 k e he (by rw [z])
    refine ⟨t, _, rfl, SqT.of upd_same, rfl, _, _, rfl, _, _, rfl, rfl, ?_⟩
    refine ⟨_, rfl, _, rfl, _, _, rfl, .inr (sm3.tup hrs), _, _, rfl, rfl, ?_⟩
    refine ⟨r, e.1, e.2, _, rfl, sm3.tup (hds k r e hr0 he), ?_, ?_, by omega, _, rfl, iteF ⟨_, _, _, rfl, sm3⟩⟩
    · rw [List.length_map, hlen]; omega
    · rw [List.length_map, hlen]; omega
  · rintro σ H1 ⟨y1, y2, y3, rfl, sm⟩
    refine ⟨_, rfl, a, ds, n, rfl, hH.same sm, tree, hn, fun H2 sm2 => ?_⟩
    refine ⟨_, rfl, rfl, _, rfl, iteF ?_⟩
    exact q H2 (sm.trans sm2)
theorem ok_need_house (T : Bl mg) (D : Def K mg "need_house" s_need_house) (C_check_house : Cal P w K mg base "check_house" ["value"] 4 (spRing K)) : Cal P w K mg base "need_house" ["house"] 5 (spRing K) := by
  refine D.ok sc_need_house (fun _ _ _ _ _ _ us hl => match us, hl with | [_], _ => rfl) (fun vs H Q E h => ?_) (fun f cdv A outer s H vs Q E hr h => ?_)
  · obtain ⟨a, ds, n, rfl, _⟩ := h
    rfl
  obtain ⟨a, ds, n, rfl, hH, tree, hn, q⟩ := h
  obtain ⟨f_check_house, fd_check_house, g_check_house, k_check_house, b_check_house, G_check_house⟩ := C_check_house
  refine ⟨_, (pss_cons (ps_set (i := 1) sc_need_house.nd rfl (.inl rfl) (pe_call G_check_house (hr.mono (by decide)) (by rfl) g_check_house k_check_house b_check_house .nil pass0 (pa_cons (pv 0) pa_nil)))
    (pss_one (ps_if (pt_cmpR op_notN (pv 1) pe_non (nomark _)) pss_never pss_nil))), ?_⟩
  refine ⟨_, rfl, a, ds, n, rfl, hH, tree, hn, fun H2 sm2 => ⟨_, rfl, rfl, _, rfl, iteF ?_⟩⟩
  exact q H2 sm2
end
end K5

namespace K5
open PySem PySem.Spec PyProof.Rows L2
def PairsAt (H : Hp) (q : Addr) (l : List (Nat × Nat)) : Prop :=
  ∃ ts : List Addr, H q = some (.lst (ts.map V.ref)) ∧ ts.length = l.length ∧ ∀ (i : Nat) (t : Addr) (e : Nat × Nat), ts[i]? = some t → l[i]? = some e → H t = some (.tup [.int e.1, .int e.2])
theorem PairsAt.same {H H' : Hp} {q : Addr} {l} (h : PairsAt H q l) (s : Same H H') : PairsAt H' q l := by
  obtain ⟨ts, h1, h2, h3⟩ := h
  exact ⟨ts, s _ _ h1, h2, fun i t e a b => s _ _ (h3 i t e a b)⟩
theorem ne_lt {H : Hp} {a b : Addr} {xs ys : List V} (h : H a = some (.lst xs)) (h' : H b = some (.tup ys)) : b ≠ a := ne_of h' h (by intro z; cases z)
/-- what stands aside of q keeps -/
theorem PairsAt.aside {H H' : Hp} {q p : Addr} {l} {xs : List V} (h : PairsAt H q l) (hp : H p = some (.lst xs)) (ne : q ≠ p) (s : But p H H') : PairsAt H' q l := by
  obtain ⟨ts, h1, h2, h3⟩ := h
  exact ⟨ts, s _ _ ne h1, h2, fun i t e a b => s _ _ (ne_lt hp (h3 i t e a b)) (h3 i t e a b)⟩
theorem PairsAt.push {H H' : Hp} {q t : Addr} {l : List (Nat × Nat)} {ts : List Addr} {d y : Nat} (h1 : H q = some (.lst (ts.map V.ref))) (h2 : ts.length = l.length) (h3 : ∀ (i : Nat) (t : Addr) (e : Nat × Nat), ts[i]? = some t → l[i]? = some e → H t = some (.tup [.int e.1, .int e.2]))
    (s : But q H H') (hq : H' q = some (.lst (ts.map V.ref ++ [.ref t]))) (ht : H' t = some (.tup [.int (d : Int), .int (y : Int)])) : PairsAt H' q (l ++ [(d, y)]) := by
  refine ⟨ts ++ [t], by rw [hq, List.map_append]; rfl, by simp [h2], fun i t' e a b => ?_⟩
  by_cases hi : i < ts.length
  · rw [List.getElem?_append_left hi] at a
    rw [List.getElem?_append_left (by omega)] at b
    have := h3 i t' e a b
    exact s _ _ (ne_lt h1 this) this
  · have hlt := get_lt a
    rw [List.length_append, List.length_singleton] at hlt
    have ei : i = ts.length := by omega
    subst ei
    rw [List.getElem?_append_right (Nat.le_refl _), Nat.sub_self] at a
    rw [h2, List.getElem?_append_right (Nat.le_refl _), Nat.sub_self] at b
    cases a
    cases b
    exact ht
/-- the rows of exits: a list each -/
theorem small3k {n : Nat} (h : n ≤ 3000) : n < sizeLine := Nat.lt_of_le_of_lt h (by decide)
theorem lcYes {A B : Hp → Prop} {σ : L2.St} {H : Hp} (h : A H) : tYes σ H (fun b H3 => if b = true then A H3 else B H3) := by
  show (if true = true then A H else B H)
  rw [if_pos rfl]
  exact h
theorem snoc_nil {α : Type} (l : List α) : l = [] ∨ ∃ r x, l = r ++ [x] := by
  by_cases h : l = []
  · exact .inl h
  · exact .inr ⟨l.dropLast, l.getLast h, (List.dropLast_concat_getLast h).symm⟩
theorem mem_ofNat {d : Nat} {l : List Nat} : ((d : Int) ∈ l.map fun x : Nat => (x : Int)) ↔ d ∈ l := by
  constructor
  · intro h
    obtain ⟨x, hx, e⟩ := List.mem_map.mp h
    have : x = d := by omega
    exact this ▸ hx
  · intro h
    exact List.mem_map.mpr ⟨d, h, rfl⟩
theorem nv_int (l : List Nat) : nv l = (l.map fun x : Nat => (x : Int)).map V.int := by
  unfold nv
  rw [List.map_map]
  rfl
theorem nv_snoc (l : List Nat) (x : Nat) : nv (l ++ [x]) = nv l ++ [.int (x : Int)] := by
  unfold nv
  rw [List.map_append]
  rfl
end K5

namespace K5
open PySem PySem.Spec PyProof.Rows L2
theorem bits29 {m : Int} (h0 : 0 < m) (h1 : m < 2 ^ 29) : ((Builtin.Int.intBits m : Nat) : Int) / 30 = 0 := by
  have h : Builtin.Int.intBits m ≤ 29 := by
    unfold Builtin.Int.intBits
    have hne : ¬ (m == 0) = true := fun z => by
      have := eq_of_beq z
      omega
    rw [if_neg hne]
    have : m.natAbs.log2 < 29 := (Nat.log2_lt (by omega)).mpr (by omega)
    omega
  omega
/-- a generator of draws: a list of three numbers, the third at most b -/
def GenAt (H : Hp) (g : Addr) (b : Nat) : Prop := ∃ x y z : Int, H g = some (.lst [.int x, .int y, .int z]) ∧ 0 ≤ x ∧ 0 ≤ z ∧ z ≤ (b : Int)
theorem GenAt.mono {H g b c} (h : GenAt H g b) (l : b ≤ c) : GenAt H g c := by
  obtain ⟨x, y, z, a, b, c, d⟩ := h
  exact ⟨x, y, z, a, b, c, by omega⟩
theorem GenAt.same {H H' g b} (h : GenAt H g b) (s : Same H H') : GenAt H' g b := by
  obtain ⟨x, y, z, a, b, c, d⟩ := h
  exact ⟨x, y, z, s _ _ a, b, c, d⟩
theorem GenAt.lst {H g b} (h : GenAt H g b) : ∃ xs, H g = some (.lst xs) := by
  obtain ⟨x, y, z, a, _⟩ := h
  exact ⟨_, a⟩
def spCell (K : PySem.W.Frag) : Sp := fun vs H Q _ => ∃ (a : Addr) (ns : List Int) (i : Int), vs = [.ref a, .int i] ∧ SqL K H a (ns.map V.int) ∧ 0 ≤ i ∧ ∀ z : Int, Q (.int z) H
def spHash : Sp := fun vs H Q _ => ∃ x i : Int, vs = [.int x, .int i] ∧ 0 ≤ i ∧ i < 2 ^ 62 ∧ ∀ z : Int, Q (.int z) H
def spGen (K : PySem.W.Frag) : Sp := fun vs H Q _ => ∃ (a : Addr) (ns : List Int) (i : Nat), vs = [.ref a, .int (i : Int)] ∧ SqL K H a (ns.map V.int) ∧ i ≤ 1000 ∧ ∀ (H' : Hp) (g : Addr), Same H H' → H g = none → GenAt H' g 1000000 → Q (.ref g) H'
def spRand : Sp := fun vs H Q _ => ∃ (g : Addr) (b m : Nat), vs = [.ref g, .int (m : Int)] ∧ GenAt H g b ∧ 0 < m ∧ m < 2 ^ 29 ∧ b < 2 ^ 60 ∧ ∀ (H' : Hp) (v : Nat), But g H H' → GenAt H' g (b + 1) → v < m → Q (.int (v : Int)) H'
section
variable {P : Program} {w : World} {K : PySem.W.Frag}
      {mg : Str → Option Value} {base : Heap}
theorem ok_cell (T : Bl mg) (D : Def K mg "_law_cell" s_l_cell) : Cal P w K mg base "_law_cell" ["_law_script", "_law_index"] 1 (spCell K) := by
  refine D.ok sc_l_cell (fun _ _ _ _ _ _ us hl => match us, hl with | [_, _], _ => rfl) (fun vs H Q E h => ?_) (fun f cdv A outer s H vs Q E hr h => ?_)
  · obtain ⟨a, ns, i, rfl, _⟩ := h
    rfl
  obtain ⟨a, ns, i, rfl, hs, hi, q⟩ := h
  refine ⟨_, (pss_cons (ps_if (pt_cmpR op_lt (pv 1) (pe_callB call_len_seq (by rfl) T.len PySem.boot_len (pa_cons (pv 0) pa_nil)) (nomark _)) (pss_one (ps_ret (pe_ix ix_list (pv 0) (pv 1) (fun _ _ => rfl)))) pss_nil)
    (pss_one (ps_ret pe_int))), ?_⟩
  refine ⟨_, rfl, _, rfl, _, _, rfl, .inl hs, _, _, rfl, rfl, _, rfl, ite2 (fun h => ?_) (fun h => ?_)⟩
  · have h := of_decide_eq_true h
    rw [List.length_map] at h
    obtain ⟨k, rfl⟩ : ∃ k : Nat, i = (k : Int) := ⟨i.toNat, by omega⟩
    have hk : k < ns.length := by omega
    refine ⟨_, rfl, _, rfl, _, _, _, _, rfl, rfl, hs, atI_nat (v := V.int ns[k]) (by rw [List.getElem?_map, List.getElem?_eq_getElem hk]; rfl), q _⟩
  · exact q 0
theorem ok_hash (T : Bl mg) (D : Def K mg "_law_hash" s_l_hash) : Cal P w K mg base "_law_hash" ["_law_seed", "_law_index"] 1 spHash := by
  refine D.ok sc_l_hash (fun _ _ _ _ _ _ us hl => match us, hl with | [_, _], _ => rfl) (fun vs H Q E h => ?_) (fun f cdv A outer s H vs Q E hr h => ?_)
  · obtain ⟨x, i, rfl, _⟩ := h
    rfl
  obtain ⟨x, i, rfl, h0, h1, q⟩ := h
  refine ⟨_, (pss_cons (ps_set (i := 2) sc_l_hash.nd rfl (.inl rfl) (pe_op op_mod (pe_op op_add (pe_op op_add (pe_op op_add (pe_op op_mul (pv 0) pe_int) (pe_op op_mul (pe_op op_mul pe_int (pv 1)) (pv 1))) (pv 1)) pe_int) pe_int))
    (pss_cons (ps_set (i := 2) sc_l_hash.nd rfl (.inl rfl) (pe_op op_mod (pe_op op_add (pe_op op_mul (pv 2) (pv 2)) pe_int) pe_int))
    (pss_one (ps_ret (pe_op op_mod (pe_op op_mul (pv 2) pe_int) pe_int))))), ?_⟩
  refine ⟨_, rfl, _, _, rfl, rfl, .inr (by decide), _, rfl, _, _, rfl, rfl, .inl (by decide), _, rfl, _, _, rfl, rfl, .inr ⟨by omega, by omega⟩, _, _, rfl, rfl, _, rfl, _, _, rfl, rfl, _, _, rfl, rfl, _, _, rfl, rfl, (by show (0 : Int) < 2147483647; decide), ?_⟩
  have b0 := Int.emod_nonneg (x * 1103515245 + 7919 * i * i + i + 1) (show (2147483647 : Int) ≠ 0 by decide)
  have b1 := Int.emod_lt_of_pos (x * 1103515245 + 7919 * i * i + i + 1) (show (0 : Int) < 2147483647 by decide)
  generalize (x * 1103515245 + 7919 * i * i + i + 1) % 2147483647 = u at b0 b1
  refine ⟨_, rfl, _, rfl, _, _, rfl, rfl, .inl ⟨by omega, by omega⟩, _, _, rfl, rfl, _, _, rfl, rfl, (by show (0 : Int) < 2147483629; decide), ?_⟩
  refine ⟨_, rfl, _, _, rfl, rfl, .inr (by decide), _, _, rfl, rfl, (by show (0 : Int) < 2147483587; decide), q _⟩
theorem ok_generator (T : Bl mg) (D : Def K mg "_law_generator" s_l_generator) (C_l_cell : Cal P w K mg base "_law_cell" ["_law_script", "_law_index"] 1 (spCell K)) : Cal P w K mg base "_law_generator" ["_law_script", "_law_index"] 2 (spGen K) := by
  refine D.ok sc_l_generator (fun _ _ _ _ _ _ us hl => match us, hl with | [_, _], _ => rfl) (fun vs H Q E h => ?_) (fun f cdv A outer s H vs Q E hr h => ?_)
  · obtain ⟨a, ns, i, rfl, _⟩ := h
    rfl
  obtain ⟨a, ns, i, rfl, hs, hi, q⟩ := h
  obtain ⟨f_l_cell, fd_l_cell, g_l_cell, k_l_cell, b_l_cell, G_l_cell⟩ := C_l_cell
  refine ⟨_, (pss_cons (ps_set (i := 2) sc_l_generator.nd rfl (.inl rfl) (pe_call G_l_cell (hr.mono (by decide)) (by rfl) g_l_cell k_l_cell b_l_cell .nil pass0 (pa_cons (pv 0) (pa_cons (pv 1) pa_nil))))
    (pss_one (ps_ret (pe_lst (pa_cons (pe_op op_mod (pe_callB (call_max2 rfl) (by rfl) T.max (by decide +kernel) (pa_cons (pe_op op_sub (pv 2) (pe_op op_pow pe_int pe_int)) (pa_cons pe_int pa_nil))) (pe_op op_powX (pe_op op_pow pe_int pe_int) pe_int)) (pa_cons (pe_op op_mod (pv 2) pe_int) (pa_cons (pe_op op_mul pe_int (pv 1)) pa_nil))))))), ?_⟩
  refine ⟨_, rfl, _, rfl, a, ns, _, rfl, hs, by omega, fun z => ?_⟩
  have hpos : (0 : Int) < (10 ^ (60 : Int).toNat) ^ (10 : Int).toNat := by decide +kernel
  refine ⟨_, rfl, _, _, rfl, rfl, ⟨by decide, by decide, by decide⟩, _, _, rfl, rfl, _, _, rfl, _, _, rfl, rfl, ⟨by decide, by decide, by decide⟩, _, _, rfl, rfl, (by decide +kernel), _, _, rfl, rfl, hpos, _, rfl, _, _, rfl, rfl, (by show (0 : Int) < 2147483647; decide), _, rfl, _, _, rfl, rfl, .inl (by decide), by show 3 ≤ sizeLine; decide, fun g ng => ?_⟩
  refine q _ g (Same.upd ng) ng ⟨_, _, _, upd_same, Int.emod_nonneg _ (by omega), by omega, by omega⟩
theorem ok_random (T : Bl mg) (D : Def K mg "_law_random" s_l_random) (C_l_hash : Cal P w K mg base "_law_hash" ["_law_seed", "_law_index"] 1 spHash) : Cal P w K mg base "_law_random" ["_law_generator_here", "_law_bound"] 2 spRand := by
  refine D.ok sc_l_random (fun _ _ _ _ _ _ us hl => match us, hl with | [_, _], _ => rfl) (fun vs H Q E h => ?_) (fun f cdv A outer s H vs Q E hr h => ?_)
  · obtain ⟨g, b, m, rfl, _⟩ := h
    rfl
  obtain ⟨g, b, m, rfl, ⟨x, y, z, hg, hx, hz, hzb⟩, hm, hm2, hb, q⟩ := h
  obtain ⟨f_l_hash, fd_l_hash, g_l_hash, k_l_hash, b_l_hash, G_l_hash⟩ := C_l_hash
  refine ⟨_, (pss_cons (ps_if (pt_cmpR op_gt (pe_ix ix_list (pv 0) pe_int (fun _ _ => rfl)) pe_int (nomark _)) (pss_cons (ps_set (i := 2) sc_l_random.nd rfl (.inl rfl) (pe_op op_mod (pe_ix ix_list (pv 0) pe_int (fun _ _ => rfl)) (pv 1)))
    (pss_cons (ps_asg (pe_op op_fdiv (pe_ix ix_list (pv 0) pe_int (fun _ _ => rfl)) (pv 1)) (pg_sub (pv 0) pe_int set_list))
    (pss_one (ps_ret (pv 2))))) pss_nil)
    (pss_cons (ps_set (i := 2) sc_l_random.nd rfl (.inl rfl) pe_int)
    (pss_cons (ps_for PassesOwn.never rfl (pi_range1 rfl T.range (pa_cons (pe_op op_add pe_int (pe_op op_fdiv (pe_bits (pv 1)) pe_int)) pa_nil)) (pg_name (i := 3) sc_l_random.nd rfl (.inl rfl))
    (pss_cons (ps_asg (pe_op op_add (pe_ix ix_list (pv 0) pe_int (fun _ _ => rfl)) pe_int) (pg_sub (pv 0) pe_int set_list))
    (pss_one (ps_set (i := 2) sc_l_random.nd rfl (.inl rfl) (pe_op op_add (pe_op op_mul (pv 2) pe_int) (pe_call G_l_hash (hr.mono (by decide)) (by rfl) g_l_hash k_l_hash b_l_hash .nil pass0 (pa_cons (pe_ix ix_list (pv 0) pe_int (fun _ _ => rfl)) (pa_cons (pe_ix ix_list (pv 0) pe_int (fun _ _ => rfl)) pa_nil))))))))
    (pss_one (ps_ret (pe_op op_mod (pv 2) (pv 1))))))), ?_⟩
  have hm' : (0 : Int) < (m : Int) := by omega
  refine ⟨_, rfl, _, _, _, V.int x, rfl, rfl, SqL.of hg, atI_nat (j := 0) (v := V.int x) rfl, _, _, rfl, rfl, _, rfl, ite2 (fun h => ?_) (fun h => ?_)⟩
  · refine ⟨_, rfl, _, _, _, V.int x, rfl, rfl, SqL.of hg, atI_nat (j := 0) (v := V.int x) rfl, _, rfl, _, _, rfl, rfl, hm', ?_⟩
    refine ⟨_, rfl, _, _, _, V.int x, rfl, rfl, SqL.of hg, atI_nat (j := 0) (v := V.int x) rfl, _, rfl, _, _, rfl, rfl, ⟨hm', by omega⟩, ?_⟩
    refine ⟨_, rfl, g, _, _, 0, rfl, rfl, hg, rfl, ?_⟩
    refine ⟨_, rfl, ?_⟩
    have e : x % (m : Int) = ((x % (m : Int)).toNat : Int) := (Int.toNat_of_nonneg (Int.emod_nonneg _ (by omega))).symm
    have l := Int.emod_lt_of_pos x hm'
    show Q (.int (x % (m : Int))) _
    rw [e]
    refine q _ _ (fun c o n e => by rw [upd_ne n]; exact e) ⟨x / (m : Int), y, z, upd_same, Int.ediv_nonneg hx (by omega), hz, by omega⟩ (by omega)
  · have eb : (1 : Int) + ((Builtin.Int.intBits (m : Int) : Nat) : Int) / 30 = 1 := by
      rw [bits29 hm' (by omega)]
      rfl
    refine ⟨_, rfl, _, rfl, _, _, rfl, rfl, ⟨by decide, by decide⟩, _, _, rfl, rfl, (1 : Int), congrArg (fun z => [V.int z]) eb, by decide, by decide, ?_⟩
    refine for_range (lo := 0) (n := 1) (fun i σ H1 => ∃ (r : Int) (y3 : Option V) (z1 : Int), σ = [some (.ref g), some (.int (m : Int)), some (.int r), y3] ∧ But g H H1 ∧ H1 g = some (.lst [.int x, .int y, .int z1]) ∧ 0 ≤ z1 ∧ z1 ≤ (b : Int) + (i : Int))
      ⟨0, _, z, rfl, fun _ _ _ e => e, hg, hz, by omega⟩ ?_ ?_
    · rintro i σ H1 hi ⟨r, y3, z1, rfl, bt, hg1, hz1, hz2⟩
      refine ⟨_, rfl, _, _, _, V.int z1, rfl, rfl, SqL.of hg1, atI_nat (j := 2) (v := V.int z1) rfl, _, _, rfl, rfl, _, rfl, g, _, _, 2, rfl, rfl, hg1, rfl, ?_⟩
      have hg2 : (upd H1 g (.lst [.int x, .int y, .int (z1 + 1)])) g = some (.lst [.int x, .int y, .int (z1 + 1)]) := upd_same
      refine ⟨_, rfl, _, _, rfl, rfl, .inr (by decide), _, rfl, _, _, _, V.int y, rfl, rfl, SqL.of hg2, atI_nat (j := 1) (v := V.int y) rfl, _, rfl, _, _, _, V.int (z1 + 1), rfl, rfl, SqL.of hg2, atI_nat (j := 2) (v := V.int (z1 + 1)) rfl, _, _, rfl, by omega, by omega, fun u => ?_⟩
      refine ⟨_, _, rfl, rfl, ?_⟩
      exact ⟨_, _, z1 + 1, rfl, bt.upd _, hg2, by omega, by omega⟩
    · rintro σ H1 ⟨r, y3, z1, rfl, bt, hg1, hz1, hz2⟩
      refine ⟨_, rfl, _, rfl, _, _, rfl, rfl, hm', ?_⟩
      have e : r % (m : Int) = ((r % (m : Int)).toNat : Int) := (Int.toNat_of_nonneg (Int.emod_nonneg _ (by omega))).symm
      have l := Int.emod_lt_of_pos r hm'
      show Q (.int (r % (m : Int))) _
      rw [e]
      exact q _ _ bt ⟨x, y, z1, hg1, hx, hz1, by omega⟩ (by omega)
end
end K5

namespace K5
open PySem PySem.Spec PyProof.Rows L2
theorem cons_erase {α : Type} : ∀ (l : List α) (i : Nat) (y : α), l[i]? = some y → (y :: l.eraseIdx i).Perm l
  | [], i, y, h => by simp at h
  | a :: r, 0, y, h => by
    have e : a = y := Option.some.inj h
    subst e
    exact List.Perm.refl _
  | a :: r, i + 1, y, h => ((List.Perm.swap a y _).trans ((cons_erase r i y h).cons a))
theorem _root_.L2.But.seq {K : PySem.W.Frag} {g a : Addr} {H H' : Hp} {xs : List V} (s : But g H H') (n : a ≠ g) (h : SqL K H a xs) : SqL K H' a xs := by
  rcases h with (h | ⟨o, h⟩) | h
  · exact .inl (.inl (s _ _ n h))
  · exact .inl (.inr ⟨o, s _ _ n h⟩)
  · exact .inr h
theorem _root_.L2.But.at {g p : Addr} {H H' : Hp} (s : But g H H') (n : H p = none) (o : HO) : But g H (upd H' p o) := fun b u ne e => by
  rw [upd_ne (ne_of_none e n)]
  exact s b u ne e
theorem _root_.L2.But.refl (g : Addr) (H : Hp) : But g H H := fun _ _ _ e => e
theorem _root_.L2.But.free {g p : Addr} {H H' : Hp} (s : But g H H') (ne : p ≠ g) (h : H' p = none) : H p = none := by
  cases q : H p with
  | none => rfl
  | some o =>
    rw [s p o ne q] at h
    cases h
theorem GenAt.at {H g b p o} (h : GenAt H g b) (n : p ≠ g) : GenAt (upd H p o) g b := by
  obtain ⟨x, y, z, a, r⟩ := h
  exact ⟨x, y, z, by rw [upd_ne n.symm]; exact a, r⟩
theorem GenAt.ne {H g b p} (h : GenAt H g b) (n : H p = none) : p ≠ g := by
  obtain ⟨x, y, z, a, r⟩ := h
  exact (ne_of_none a n).symm
theorem seq_nat {v n : Nat} (h : v < n) : seqIndex? (v : Int) n = some v := (ixN_seq (ixN_nat h)).1
def spShuf (K : PySem.W.Frag) : Sp := fun vs H Q _ => ∃ (g a : Addr) (b : Nat) (xs : List V), vs = [.ref g, .ref a] ∧ GenAt H g b ∧ SqL K H a xs ∧ a ≠ g ∧ xs.length ≤ 1000 ∧ b < 2 ^ 59 ∧
  ∀ (H' : Hp) (q : Addr) (ys : List V), But g H H' → GenAt H' g (b + xs.length) → H q = none → H' q = some (.lst ys) → ys.Perm xs → Q (.ref q) H'
section
variable {P : Program} {w : World} {K : PySem.W.Frag}
      {mg : Str → Option Value} {base : Heap}
theorem ok_shuffled (T : Bl mg) (D : Def K mg "_law_shuffled" s_l_shuffled) (C_l_random : Cal P w K mg base "_law_random" ["_law_generator_here", "_law_bound"] 2 spRand) : Cal P w K mg base "_law_shuffled" ["_law_generator_here", "_law_items"] 3 (spShuf K) := by
  refine D.ok sc_l_shuffled (fun _ _ _ _ _ _ us hl => match us, hl with | [_, _], _ => rfl) (fun vs H Q E h => ?_) (fun f cdv A outer s H vs Q E hr h => ?_)
  · obtain ⟨g, a, b, xs, rfl, _⟩ := h
    rfl
  obtain ⟨g, a, b, xs, rfl, hg, hs, nag, hxs, hb, q⟩ := h
  obtain ⟨f_l_random, fd_l_random, g_l_random, k_l_random, b_l_random, G_l_random⟩ := C_l_random
  refine ⟨_, (pss_cons (ps_set (i := 2) sc_l_shuffled.nd rfl (.inr rfl) (pe_callTy call_list_of (by rfl) T.list (by decide +kernel) (pa_cons (pv 1) pa_nil)))
    (pss_one (ps_ret (pe_lc (own := [("_law_item", 3)]) (g := gName 3)  (te := (tBM K "list" rPopAt (tVar 2) (tCons (tCall spRand [] E0 (tCons (tVar 0) (tCons (tCB (fun xs H Q => ∃ p ys, xs = [V.ref p] ∧ (SqL K H p ys ∨ SqT K H p ys) ∧ Q (.int ys.length) H) (tCons (tVar 2) tNil)) tNil))) tNil))) rfl sc_l_shuffled.nd (pi_list (pv 1)) (blkOk_by (N := N_l_shuffled) (sc := defScope s_l_shuffled) (own := [("_law_item", 3)]) (by decide +kernel)) (fun _ _ _ _ _ => (pg_name (i := 3) sc_l_shuffled.nd rfl (.inl rfl) (.inr rfl))) (fun _ _ _ _ _ => pts_nil) (fun _ _ _ _ _ => (pe_bm PySem.F.plainAttrs_list PySem.F.slot_list_pop PySem.F.type_list_pop mt_popAt (pv 2) (pa_cons (pe_call G_l_random (hr.mono (by decide)) (by rfl) g_l_random k_l_random b_l_random .nil pass0 (pa_cons (pv 0) (pa_cons (pe_callB call_len_seq (by rfl) T.len PySem.boot_len (pa_cons (pv 2) pa_nil)) pa_nil))) pa_nil))))))), ?_⟩
  refine ⟨_, rfl, a, xs, rfl, .inl hs, fun pp npp => ?_⟩
  have s1 := Same.upd (o := .lst xs) npp
  have h1 : (upd H pp (.lst xs)) pp = some (.lst xs) := upd_same
  have g1 := hg.same s1
  generalize upd H pp (.lst xs) = H1 at s1 h1 g1
  refine ⟨_, rfl, a, rfl, ⟨_, s1.seq hs⟩, fun pd npd => ?_⟩
  have ndp : pd ≠ pp := (ne_of_none h1 npd).symm
  have ndg : pd ≠ g := g1.ne npd
  have npg : pp ≠ g := hg.ne npp
  refine lc_it (walk_list (K := K) (a := a) (xs := xs)) (fun i H2 => ∃ acc pl, But g H H2 ∧ GenAt H2 g (b + i) ∧ H2 pp = some (.lst pl) ∧ H2 pd = some (.lst acc) ∧ (acc ++ pl).Perm xs ∧ acc.length = i)
    ⟨[], xs, s1.but.at (s1.free npd) _, g1.at ndg, by rw [upd_ne ndp.symm]; exact h1, upd_same, List.Perm.refl _, rfl⟩ (fun i H2 _ ⟨_, _, bt, _⟩ => bt.seq nag hs) ?_ ?_
  · rintro i v H2 H3 hi ⟨acc, pl, bt, g2, h2, hd2, pm, hl⟩ ⟨rfl, ex⟩
    have hlen := pm.length_eq
    rw [List.length_append] at hlen
    refine ⟨rfl, lcYes ?_⟩
    refine ⟨_, rfl, .inl ⟨rfl, _, SqL.of h2⟩, _, rfl, _, rfl, pp, pl, rfl, .inl (SqL.of h2), ?_⟩
    refine ⟨g, b + i, pl.length, rfl, g2, by omega, by omega, by omega, fun H4 u bt4 g4 hu => ?_⟩
    have h4 := bt4 _ _ npg h2
    have hd4 := bt4 _ _ ndg hd2
    obtain ⟨y, hy⟩ : ∃ y, pl[u]? = some y := ⟨_, List.getElem?_eq_getElem hu⟩
    refine ⟨pp, pl, _, u, y, rfl, rfl, h4, by omega, by omega, seq_nat hu, hy, ?_⟩
    refine ⟨acc, by rw [upd_ne ndp]; exact hd4, small1000 (by omega), acc ++ [y], pl.eraseIdx u, ?_, ?_, ?_, upd_same, ?_, by rw [List.length_append, hl]; rfl⟩
    · exact (((bt.trans bt4).at npp _).at (s1.free npd) _)
    · exact (g4.at npg).at ndg
    · rw [upd_ne ndp.symm, upd_same]
    · rw [List.append_assoc]
      exact (List.Perm.append_left acc (cons_erase pl u y hy)).trans pm
  · rintro H2 ⟨acc, pl, bt, g2, h2, hd2, pm, hl⟩
    have hlen := pm.length_eq
    rw [List.length_append] at hlen
    have : pl = [] := List.eq_nil_of_length_eq_zero (by omega)
    subst this
    rw [List.append_nil] at pm
    exact q H2 pd acc bt g2 (s1.free npd) hd2 pm
end
end K5

namespace K5
open PySem PySem.Spec PyProof.Rows L2
theorem PairsAt.but {g q : Addr} {H H' : Hp} {l} (h : PairsAt H q l) (hg : ∃ xs, H g = some (.lst xs)) (ne : q ≠ g) (s : But g H H') : PairsAt H' q l := by
  obtain ⟨xs, hx⟩ := hg
  exact h.aside hx ne s
/-- a rearranged list of the same pairs -/
theorem PairsAt.perm {H : Hp} {l : List (Nat × Nat)} {ts : List Addr} {ys : List V} (h2 : ts.length = l.length) (h3 : ∀ (i : Nat) (t : Addr) (e : Nat × Nat), ts[i]? = some t → l[i]? = some e → H t = some (.tup [.int e.1, .int e.2]))
    (p : ys.Perm (ts.map V.ref)) : ∃ (ts' : List Addr) (l' : List (Nat × Nat)), ys = ts'.map V.ref ∧ l'.Perm l ∧ ts'.length = l'.length ∧ ∀ (i : Nat) (t : Addr) (e : Nat × Nat), ts'[i]? = some t → l'[i]? = some e → H t = some (.tup [.int e.1, .int e.2]) := by
  have e1 : ts.map V.ref = (ts.zip l).map (fun z => V.ref z.1) := by
    have e : (ts.zip l).map (fun z => V.ref z.1) = ((ts.zip l).map Prod.fst).map V.ref := by rw [List.map_map]; rfl
    rw [e, List.map_fst_zip (by omega)]
  rw [e1] at p
  obtain ⟨zs, ez, pz⟩ := perm_of_map _ _ _ p
  refine ⟨zs.map Prod.fst, zs.map Prod.snd, by rw [ez, List.map_map]; rfl, ?_, by simp, fun i t e a b => ?_⟩
  · have q := pz.map Prod.snd
    rw [List.map_snd_zip (by omega)] at q
    exact q
  · rw [List.getElem?_map] at a b
    cases hz : zs[i]? with
    | none => rw [hz] at a; cases a
    | some z =>
      rw [hz] at a b
      cases a
      cases b
      have hm := pz.mem_iff.mp (List.mem_of_getElem? hz)
      obtain ⟨j, hj⟩ := List.mem_iff_getElem?.mp hm
      rw [List.getElem?_zip_eq_some] at hj
      exact h3 j _ _ hj.1 hj.2
def spHouse (K : PySem.W.Frag) : Sp := fun vs H Q _ => ∃ (g : Addr) (b most : Nat), vs = [.ref g, .int (most : Int)] ∧ GenAt H g b ∧ 0 < most ∧ most ≤ 100 ∧ b < 2 ^ 50 ∧
  ∀ (H' : Hp) (a : Addr) (ds : List (Nat × Nat)) (n : Nat), But g H H' → GenAt H' g (b + 1000) → a ≠ g → HouseAt K H' a ds → Tree n ds → n ≤ most → Q (.ref a) H'
section
variable {P : Program} {w : World} {K : PySem.W.Frag}
      {mg : Str → Option Value} {base : Heap}
theorem ok_random_house (T : Bl mg) (D : Def K mg "_law_random_house" s_l_random_house) (C_l_random : Cal P w K mg base "_law_random" ["_law_generator_here", "_law_bound"] 2 spRand)
    (C_l_shuffled : Cal P w K mg base "_law_shuffled" ["_law_generator_here", "_law_items"] 3 (spShuf K)) : Cal P w K mg base "_law_random_house" ["_law_generator_here", "_law_most"] 4 (spHouse K) := by
  refine D.ok sc_l_random_house (fun _ _ _ _ _ _ us hl => match us, hl with | [_, _], _ => rfl) (fun vs H Q E h => ?_) (fun f cdv A outer s H vs Q E hr h => ?_)
  · obtain ⟨g, b, most, rfl, _⟩ := h
    rfl
  obtain ⟨g, b, most, rfl, hg, hm0, hm1, hb, q⟩ := h
  obtain ⟨f_l_random, fd_l_random, g_l_random, k_l_random, b_l_random, G_l_random⟩ := C_l_random
  obtain ⟨f_l_shuffled, fd_l_shuffled, g_l_shuffled, k_l_shuffled, b_l_shuffled, G_l_shuffled⟩ := C_l_shuffled
  refine ⟨_, (pss_cons (ps_set (i := 2) sc_l_random_house.nd rfl (.inl rfl) (pe_op op_add pe_int (pe_call G_l_random (hr.mono (by decide)) (by rfl) g_l_random k_l_random b_l_random .nil pass0 (pa_cons (pv 0) (pa_cons (pv 1) pa_nil)))))
    (pss_cons (ps_set (i := 3) sc_l_random_house.nd rfl (.inl rfl) (pe_call G_l_random (hr.mono (by decide)) (by rfl) g_l_random k_l_random b_l_random .nil pass0 (pa_cons (pv 0) (pa_cons pe_int pa_nil))))
    (pss_cons (ps_set (i := 4) sc_l_random_house.nd rfl (.inl rfl) (pe_lst pa_nil))
    (pss_cons (ps_for PassesOwn.never rfl (pi_range2 rfl T.range (pa_cons pe_int (pa_cons (pv 2) pa_nil))) (pg_name (i := 5) sc_l_random_house.nd rfl (.inl rfl))
    (pss_cons (ps_set (i := 6) sc_l_random_house.nd rfl (.inl rfl) (pe_ix ix_list (pe_lst (pa_cons (pe_op op_sub (pv 5) pe_int) (pa_cons pe_int (pa_cons (pe_call G_l_random (hr.mono (by decide)) (by rfl) g_l_random k_l_random b_l_random .nil pass0 (pa_cons (pv 0) (pa_cons (pv 5) pa_nil))) (pa_cons (pe_callB (call_max2 rfl) (by rfl) T.max (by decide +kernel) (pa_cons pe_int (pa_cons (pe_op op_sub (pe_op op_sub (pv 5) pe_int) (pe_call G_l_random (hr.mono (by decide)) (by rfl) g_l_random k_l_random b_l_random .nil pass0 (pa_cons (pv 0) (pa_cons pe_int pa_nil)))) pa_nil))) pa_nil))))) (pv 3) (fun _ _ => rfl)))
    (pss_one (ps_expr (pe_bm PySem.F.plainAttrs_list PySem.F.slot_list_append PySem.F.type_list_append mt_append (pv 4) (pa_cons (pe_tup (pa_cons (pv 6) (pa_cons (pv 5) pa_nil))) pa_nil))))))
    (pss_cons (ps_set (i := 7) sc_l_random_house.nd rfl (.inl rfl) (pe_call G_l_shuffled (hr.mono (by decide)) (by rfl) g_l_shuffled k_l_shuffled b_l_shuffled .nil pass0 (pa_cons (pv 0) (pa_cons (pe_listRg rfl (by rfl) T.list (prg_1 (by rfl) T.range (pv 2))) pa_nil))))
    (pss_cons (ps_set (i := 8) sc_l_random_house.nd rfl (.inl rfl) (pe_lst pa_nil))
    (pss_cons (ps_for PassesOwn.never rfl (pi_list (pe_call G_l_shuffled (hr.mono (by decide)) (by rfl) g_l_shuffled k_l_shuffled b_l_shuffled .nil pass0 (pa_cons (pv 0) (pa_cons (pv 4) pa_nil)))) (pg_tup (n := 2) rfl (pgs_cons (pg_name (i := 9) sc_l_random_house.nd rfl (.inl rfl)) (pgs_cons (pg_name (i := 6) sc_l_random_house.nd rfl (.inl rfl)) pgs_nil)))
    (pss_cons (ps_set (i := 10) sc_l_random_house.nd rfl (.inl rfl) (pe_tup (pa_cons (pe_ix ix_list (pv 7) (pv 9) (fun _ _ => rfl)) (pa_cons (pe_ix ix_list (pv 7) (pv 6) (fun _ _ => rfl)) pa_nil))))
    (pss_one (ps_expr (pe_bm PySem.F.plainAttrs_list PySem.F.slot_list_append PySem.F.type_list_append mt_append (pv 8) (pa_cons (pe_stp (pv 10) (pe_op op_sub pe_int (pe_op op_mul pe_int (pe_call G_l_random (hr.mono (by decide)) (by rfl) g_l_random k_l_random b_l_random .nil pass0 (pa_cons (pv 0) (pa_cons pe_int pa_nil)))))) pa_nil))))))
    (pss_one (ps_ret (pe_callTy call_tuple_of (by rfl) T.tuple (by decide +kernel) (pa_cons (pv 8) pa_nil))))))))))), ?_⟩
  refine ⟨_, rfl, _, rfl, g, b, most, rfl, hg, hm0, by omega, by omega, fun H1 v bt1 g1 hv => ⟨_, _, rfl, rfl, ?_⟩⟩
  refine ⟨_, rfl, g, b + 1, 4, rfl, g1, by decide, by decide, by omega, fun H2 kind bt2 g2 hk => ?_⟩
  refine ⟨Nat.zero_le _, fun pd npd => ?_⟩
  have btd := (bt1.trans bt2).at ((bt1.trans bt2).free (g2.ne npd) npd) (.lst [])
  have hpdg := g2.ne npd
  have npd0 : H pd = none := (bt1.trans bt2).free hpdg npd
  have gd := g2.same (Same.upd (o := .lst []) npd)
  have hd0 : PairsAt (upd H2 pd (.lst [])) pd [] := ⟨[], upd_same, rfl, fun i t e h => by simp at h⟩
  generalize upd H2 pd (.lst []) = H3 at btd gd hd0
  refine ⟨_, rfl, _, _, rfl, ⟨by omega, by omega, by omega, by omega⟩, ?_⟩
  have ev : (1 + (v : Int) - 1).toNat = v := by omega
  refine for_it (walk_range (lo := 1) (n := (1 + (v : Int) - 1).toNat)) (fun i σ H4 => ∃ es y5 y6 y7 y8 y9 y10, σ = [some (.ref g), some (.int (most : Int)), some (.int (1 + (v : Int))), some (.int (kind : Int)), some (.ref pd), y5, y6, y7, y8, y9, y10] ∧
    But g H H4 ∧ GenAt H4 g (b + 2 + 2 * i) ∧ PairsAt H4 pd es ∧ Tr0 (1 + i) es) ⟨[], _, _, _, _, _, _, rfl, btd, gd, hd0, Tr0.one⟩ (fun _ _ _ _ _ => trivial) ?_ ?_
  · rintro i x σ H4 H5 hi ⟨es, y5, y6, y7, y8, y9, y10, rfl, bt, g4, hp, tr⟩ ⟨rfl, hx⟩
    rw [ev] at hi
    have hel := tr.len
    have er : (1 : Int) + (i : Int) = ((1 + i : Nat) : Int) := by omega
    have hx' : x = V.int ((1 + i : Nat) : Int) := hx.trans (congrArg V.int er)
    subst hx'
    refine ⟨_, rfl, _, _, rfl, rfl, _, rfl, _, rfl, g, b + 2 + 2 * i, 1 + i, rfl, g4, by omega, by omega, by omega, fun H6 u1 bt6 g6 hu1 => ?_⟩
    refine ⟨_, rfl, _, _, rfl, rfl, _, rfl, g, _, 3, rfl, g6, by decide, by decide, by omega, fun H7 u2 bt7 g7 hu2 => ⟨_, _, rfl, rfl, _, _, rfl, by show 4 ≤ sizeLine; decide, fun pl npl => ?_⟩⟩
    obtain ⟨o, ho, hlt⟩ : ∃ o : Nat, ([V.int (((1 + i : Nat) : Int) - 1), V.int 0, V.int (u1 : Int), V.int (if ((((1 + i : Nat) : Int) - 1) - (u2 : Int)) > 0 then ((((1 + i : Nat) : Int) - 1) - (u2 : Int)) else 0)] : List V)[kind]? = some (.int (o : Int)) ∧ o < 1 + i := by
      match kind, hk with
      | 0, _ => exact ⟨i, congrArg (fun z => some (V.int z)) (by omega), by omega⟩
      | 1, _ => exact ⟨0, rfl, by omega⟩
      | 2, _ => exact ⟨u1, rfl, hu1⟩
      | 3, _ =>
        by_cases c : ((((1 + i : Nat) : Int) - 1) - (u2 : Int)) > 0
        · exact ⟨((((1 + i : Nat) : Int) - 1) - (u2 : Int)).toNat, congrArg (fun z => some (V.int z)) (by rw [if_pos c]; omega), by omega⟩
        · exact ⟨0, congrArg (fun z => some (V.int z)) (by rw [if_neg c]; rfl), by omega⟩
    refine ⟨_, rfl, pl, _, _, _, rfl, rfl, SqL.of upd_same, atI_nat ho, ?_⟩
    have nplg : pl ≠ g := g7.ne npl
    have bt8 := ((bt.trans bt6).trans bt7).at (((bt.trans bt6).trans bt7).free nplg npl) (.lst [V.int (((1 + i : Nat) : Int) - 1), V.int 0, V.int (u1 : Int), V.int (if ((((1 + i : Nat) : Int) - 1) - (u2 : Int)) > 0 then ((((1 + i : Nat) : Int) - 1) - (u2 : Int)) else 0)])
    have g8 := g7.at (o := .lst [V.int (((1 + i : Nat) : Int) - 1), V.int 0, V.int (u1 : Int), V.int (if ((((1 + i : Nat) : Int) - 1) - (u2 : Int)) > 0 then ((((1 + i : Nat) : Int) - 1) - (u2 : Int)) else 0)]) nplg
    have hp8 := ((hp.but g4.lst hpdg bt6).but g6.lst hpdg bt7).same (Same.upd (o := .lst [V.int (((1 + i : Nat) : Int) - 1), V.int 0, V.int (u1 : Int), V.int (if ((((1 + i : Nat) : Int) - 1) - (u2 : Int)) > 0 then ((((1 + i : Nat) : Int) - 1) - (u2 : Int)) else 0)]) npl)
    generalize upd H7 pl (.lst [V.int (((1 + i : Nat) : Int) - 1), V.int 0, V.int (u1 : Int), V.int (if ((((1 + i : Nat) : Int) - 1) - (u2 : Int)) > 0 then ((((1 + i : Nat) : Int) - 1) - (u2 : Int)) else 0)]) = H8 at bt8 g8 hp8
    obtain ⟨ts, e1, e2, e3⟩ := hp8
    refine ⟨_, rfl, .inl ⟨rfl, _, SqL.of e1⟩, _, rfl, _, rfl, by show 2 ≤ sizeLine; decide, fun t nt => ⟨pd, _, _, rfl, rfl, by rw [upd_ne (ne_of_none e1 nt)]; exact e1, by rw [List.length_map, e2]; exact small1000 (by omega), ?_⟩⟩
    have ntd : t ≠ pd := (ne_of_none e1 nt).symm
    have ntg : t ≠ g := g8.ne nt
    refine ⟨es ++ [(o, 1 + i)], _, _, _, _, _, _, rfl, (bt8.at (bt8.free ntg nt) _).at npd0 _, ((g8.at ntg).at hpdg).mono (by omega), .push (ts := ts) e1 e2 e3 (fun b o ne e => by rw [upd_ne ne, upd_ne (ne_of_none e nt)]; exact e) upd_same (by rw [upd_ne ntd, upd_same]), ?_⟩
    have := tr.grow o hlt
    rw [show 1 + (i + 1) = 1 + i + 1 by omega]
    exact this
  · rintro σ H4 ⟨es, y5, y6, y7, y8, y9, y10, rfl, bt, g4, hp, tr⟩
    rw [ev] at g4 tr
    have hel := tr.len
    obtain ⟨ts, e1, e2, e3⟩ := hp
    have en : rgV 0 (1 + (v : Int)) = nv (List.range (1 + v)) := by
      rw [← rgV_nat, show (((1 + v : Nat)) : Int) = 1 + (v : Int) by omega]
    refine ⟨_, rfl, _, rfl, _, rfl, .of_le (Int.le_refl _) (by omega) (by omega) (by omega), fun pn npn => ?_⟩
    rw [en]
    have npng : pn ≠ g := g4.ne npn
    have bt5 := bt.at (bt.free npng npn) (.lst (nv (List.range (1 + v))))
    have g5 := g4.same (Same.upd (o := .lst (nv (List.range (1 + v)))) npn)
    have hn5 : (upd H4 pn (.lst (nv (List.range (1 + v))))) pn = some (.lst (nv (List.range (1 + v)))) := upd_same
    have s5 := Same.upd (o := .lst (nv (List.range (1 + v)))) npn
    have e1' := s5 _ _ e1
    have e3' := fun i t e a b => s5 _ _ (e3 i t e a b)
    generalize upd H4 pn (.lst (nv (List.range (1 + v)))) = H5 at bt5 g5 hn5 s5 e1' e3'
    refine ⟨g, pn, _, nv (List.range (1 + v)), rfl, g5, SqL.of hn5, npng, by rw [nv_len, List.length_range]; omega, by omega, fun H6 qn ys bt6 g6 nqn hqn pm => ?_⟩
    rw [nv_len, List.length_range] at g6
    obtain ⟨L, rfl, pL⟩ := perm_of_map _ _ _ pm
    have e1'' := bt6 _ _ hpdg e1'
    have e3'' := fun i t e a b => bt6 _ _ (ne_lt (g5.lst.choose_spec) (e3' i t e a b)) (e3' i t e a b)
    have hnd := pL.symm.nodup List.nodup_range
    have hLl : L.length = 1 + v := by rw [pL.length_eq, List.length_range]
    refine ⟨Nat.zero_le _, fun pr npr => ?_⟩
    have nprg : pr ≠ g := g6.ne npr
    have nprn : qn ≠ pr := ne_of_none hqn npr
    have bt7 := (bt5.trans bt6).at ((bt5.trans bt6).free nprg npr) (.lst [])
    have s7 := Same.upd (o := .lst []) npr
    have g7 := g6.same s7
    have hqn7 := s7 _ _ hqn
    have e17 := s7 _ _ e1''
    have e37 := fun i t e a b => s7 _ _ (e3'' i t e a b)
    have hpr7 : (upd H6 pr (.lst [])) pr = some (.lst []) := upd_same
    have npr0 : H pr = none := (bt5.trans bt6).free nprg npr
    generalize upd H6 pr (.lst []) = H7 at bt7 g7 hqn7 e17 e37 hpr7 s7
    refine ⟨_, rfl, _, rfl, g, pd, _, _, rfl, g7, SqL.of e17, hpdg, by rw [List.length_map, e2]; omega, by omega, fun H8 qs ys2 bt8 g8 nqs hqs pm2 => ?_⟩
    rw [List.length_map, e2] at g8
    have nqsg : qs ≠ g := g7.ne nqs
    have nqsr : qs ≠ pr := (ne_of_none hpr7 nqs).symm
    have nqng : qn ≠ g := fun z => by
      subst z
      obtain ⟨xx, yy, zz, ga, _⟩ := g5
      rw [ga] at nqn
      cases nqn
    have e38 := fun i t e a b => bt8 _ _ (ne_lt (g7.lst.choose_spec) (e37 i t e a b)) (e37 i t e a b)
    obtain ⟨ts', es', rfl, pe, hl', pr'⟩ := PairsAt.perm e2 e38 pm2
    have tr' := tr.perm pe
    have hel' := tr'.len
    refine ⟨qs, rfl, ⟨_, SqL.of hqs⟩, ?_⟩
    refine for_it (walk_list (K := K) (a := qs) (xs := ts'.map V.ref)) (fun j σ H9 => ∃ fs y5 y6 y9 y10, σ = [some (.ref g), some (.int (most : Int)), some (.int (1 + (v : Int))), some (.int (kind : Int)), some (.ref pd), y5, y6, some (.ref qn), some (.ref pr), y9, y10] ∧
      But g H H9 ∧ GenAt H9 g (b + 800 + j) ∧ H9 qn = some (.lst (L.map fun (x : Nat) => V.int (x : Int))) ∧ H9 qs = some (.lst (ts'.map V.ref)) ∧ (∀ (i : Nat) (t : Addr) (e : Nat × Nat), ts'[i]? = some t → es'[i]? = some e → H9 t = some (.tup [.int e.1, .int e.2])) ∧
      PairsAt H9 pr fs ∧ Flip ((es'.take j).map fun e => (L.getD e.1 0, L.getD e.2 0)) fs)
      ⟨[], _, _, _, _, rfl, bt7.trans bt8, g8.mono (by omega), bt8 _ _ nqng hqn7, hqs, pr', ⟨[], bt8 _ _ nprg hpr7, rfl, fun i t e h => by simp at h⟩, .nil⟩ (fun i σ H9 _ ⟨_, _, _, _, _, _, _, _, _, h, _⟩ => SqL.of h) ?_ ?_
    · rintro j x σ H9 H10 hj ⟨fs, y5, y6, y9, y10, rfl, bt9, g9, hn9, hs9, p9, hp9, fl⟩ ⟨rfl, ex⟩
      have hj' : j < ts'.length := by
        rw [List.length_map] at hj
        exact hj
      obtain ⟨t, ht⟩ : ∃ t, ts'[j]? = some t := get_of rfl hj'
      obtain ⟨e, he⟩ : ∃ e, es'[j]? = some e := get_of hl'.symm hj'
      rw [List.getElem?_map, ht] at ex
      cases ex
      have htup := p9 j t e ht he
      have elt := tr'.lt e (List.mem_of_getElem? he)
      have a1 : L[e.1]? = some (L.getD e.1 0) := by
        rw [List.getD_eq_getElem?_getD, List.getElem?_eq_getElem (by omega)]
        rfl
      have a2 : L[e.2]? = some (L.getD e.2 0) := by
        rw [List.getD_eq_getElem?_getD, List.getElem?_eq_getElem (by omega)]
        rfl
      obtain ⟨ts3, f1, f2, f3⟩ := hp9
      have flen : fs.length = j := by
        rw [← fl.len, List.length_map, List.length_take]
        have := tr'.len
        have := (List.getElem?_eq_some_iff.mp he).1
        omega
      have etake : (es'.take (j + 1)).map (fun e => (L.getD e.1 0, L.getD e.2 0)) = (es'.take j).map (fun e => (L.getD e.1 0, L.getD e.2 0)) ++ [(L.getD e.1 0, L.getD e.2 0)] := by
        rw [List.take_add_one, he, List.map_append]
        rfl
      have fin : ∀ (Hc : Hp) (tt : Addr) (d1 d2 : Nat), But g H Hc → GenAt Hc g (b + 800 + j + 1) → Hc qn = some (.lst (L.map fun (x : Nat) => V.int (x : Int))) → Hc qs = some (.lst (ts'.map V.ref)) →
          (∀ (i : Nat) (t : Addr) (e : Nat × Nat), ts'[i]? = some t → es'[i]? = some e → Hc t = some (.tup [.int e.1, .int e.2])) → Hc pr = some (.lst (ts3.map V.ref)) →
          (∀ (i : Nat) (t : Addr) (e : Nat × Nat), ts3[i]? = some t → fs[i]? = some e → Hc t = some (.tup [.int e.1, .int e.2])) → Hc tt = some (.tup [.int (d1 : Int), .int (d2 : Int)]) →
          Flip ((es'.take (j + 1)).map fun e => (L.getD e.1 0, L.getD e.2 0)) (fs ++ [(d1, d2)]) →
          ∀ y5 y6 y9 y10, ∃ fs' z5 z6 z9 z10, ([some (.ref g), some (.int (most : Int)), some (.int (1 + (v : Int))), some (.int (kind : Int)), some (.ref pd), y5, y6, some (.ref qn), some (.ref pr), y9, y10] : L2.St) = [some (.ref g), some (.int (most : Int)), some (.int (1 + (v : Int))), some (.int (kind : Int)), some (.ref pd), z5, z6, some (.ref qn), some (.ref pr), z9, z10] ∧
          But g H (upd Hc pr (.lst (ts3.map V.ref ++ [V.ref tt]))) ∧ GenAt (upd Hc pr (.lst (ts3.map V.ref ++ [V.ref tt]))) g (b + 800 + (j + 1)) ∧ (upd Hc pr (.lst (ts3.map V.ref ++ [V.ref tt]))) qn = some (.lst (L.map fun (x : Nat) => V.int (x : Int))) ∧ (upd Hc pr (.lst (ts3.map V.ref ++ [V.ref tt]))) qs = some (.lst (ts'.map V.ref)) ∧
          (∀ (i : Nat) (t : Addr) (e : Nat × Nat), ts'[i]? = some t → es'[i]? = some e → (upd Hc pr (.lst (ts3.map V.ref ++ [V.ref tt]))) t = some (.tup [.int e.1, .int e.2])) ∧
          PairsAt (upd Hc pr (.lst (ts3.map V.ref ++ [V.ref tt]))) pr fs' ∧ Flip ((es'.take (j + 1)).map fun e => (L.getD e.1 0, L.getD e.2 0)) fs' := by
        intro Hc tt d1 d2 k1 k2 k3 k4 k5 k6 k7 k8 k9 y5 y6 y9 y10
        refine ⟨fs ++ [(d1, d2)], _, _, _, _, rfl, k1.at npr0 _, k2.at nprg, by rw [upd_ne nprn]; exact k3, by rw [upd_ne nqsr]; exact k4, fun i t e x y => ?_, .push (ts := ts3) k6 f2 k7 (fun b o ne e => by rw [upd_ne ne]; exact e) upd_same (by rw [upd_ne (ne_lt k6 k8)]; exact k8), k9⟩
        have := k5 i t e x y
        rw [upd_ne (ne_lt k6 this)]
        exact this
      refine ⟨t, _, rfl, SqT.of htup, rfl, _, _, rfl, _, _, rfl, rfl, ?_⟩
      refine ⟨_, rfl, _, rfl, qn, _, _, _, rfl, rfl, SqL.of hn9, atI_nat (v := V.int (L.getD e.1 0 : Nat)) (by rw [List.getElem?_map, a1]; rfl), _, rfl, _, rfl, qn, _, _, _, rfl, rfl, SqL.of hn9, atI_nat (v := V.int (L.getD e.2 0 : Nat)) (by rw [List.getElem?_map, a2]; rfl), by show 2 ≤ sizeLine; decide, fun te nte => ?_⟩
      have nteg : te ≠ g := g9.ne nte
      have sA := Same.upd (o := .tup [.int (L.getD e.1 0 : Nat), .int (L.getD e.2 0 : Nat)]) nte
      have btA := bt9.at (bt9.free nteg nte) (.tup [.int (L.getD e.1 0 : Nat), .int (L.getD e.2 0 : Nat)])
      have gA := g9.same sA
      have hteA : (upd H10 te (.tup [.int (L.getD e.1 0 : Nat), .int (L.getD e.2 0 : Nat)])) te = some (.tup [.int (L.getD e.1 0 : Nat), .int (L.getD e.2 0 : Nat)]) := upd_same
      have hnA := sA _ _ hn9
      have hsA := sA _ _ hs9
      have pA := fun i t e x y => sA _ _ (p9 i t e x y)
      have fA := sA _ _ f1
      have f3A := fun i t e x y => sA _ _ (f3 i t e x y)
      generalize upd H10 te (.tup [.int (L.getD e.1 0 : Nat), .int (L.getD e.2 0 : Nat)]) = HA at sA btA gA hteA hnA hsA pA fA f3A
      refine ⟨_, rfl, .inl ⟨rfl, _, SqL.of fA⟩, _, rfl, _, rfl, g, b + 800 + j, 2, rfl, gA, by decide, by decide, by omega, fun HB u btB gB hu => ?_⟩
      have gAl := gA.lst.choose_spec
      have hteB := btB _ _ nteg hteA
      have hnB := btB _ _ nqng hnA
      have hsB := btB _ _ nqsg hsA
      have pB := fun i t e x y => btB _ _ (ne_lt gAl (pA i t e x y)) (pA i t e x y)
      have fB := btB _ _ nprg fA
      have f3B := fun i t e x y => btB _ _ (ne_lt gAl (f3A i t e x y)) (f3A i t e x y)
      have btHB := btA.trans btB
      refine ⟨_, _, rfl, rfl, .inl (by decide), _, _, rfl, rfl, te, _, _, rfl, SqT.of hteB, ?_⟩
      match u, hu with
      | 0, _ =>
        refine .inl ⟨rfl, pr, _, _, rfl, rfl, fB, by rw [List.length_map, f2]; exact small1000 (by have := tr'.len; have := (List.getElem?_eq_some_iff.mp he).1; omega), ?_⟩
        exact fin HB te _ _ btHB gB hnB hsB pB fB f3B hteB (by rw [etake]; exact fl.snoc _) _ _ _ _
      | 1, _ =>
        refine .inr ⟨rfl, fun tt ntt => ⟨pr, _, _, rfl, rfl, by rw [upd_ne (ne_of_none fB ntt)]; exact fB, by rw [List.length_map, f2]; exact small1000 (by have := tr'.len; have := (List.getElem?_eq_some_iff.mp he).1; omega), ?_⟩⟩
        have nttg : tt ≠ g := gB.ne ntt
        have sC := Same.upd (o := .tup [.int (L.getD e.2 0 : Nat), .int (L.getD e.1 0 : Nat)]) ntt
        exact fin _ tt _ _ (btHB.at (btHB.free nttg ntt) _) (gB.same sC) (sC _ _ hnB) (sC _ _ hsB) (fun i t e x y => sC _ _ (pB i t e x y)) (sC _ _ fB) (fun i t e x y => sC _ _ (f3B i t e x y)) upd_same (by rw [etake]; exact fl.snocT _ _) _ _ _ _
    · rintro σ H9 ⟨fs, y5, y6, y9, y10, rfl, bt9, g9, hn9, hs9, p9, hp9, fl⟩
      rw [List.length_map, hl', List.take_length] at fl
      obtain ⟨ts3, f1, f2, f3⟩ := hp9
      refine ⟨_, rfl, pr, _, rfl, .inl ⟨SqL.of f1, fun pt npt => ?_⟩⟩
      have nptg : pt ≠ g := g9.ne npt
      refine q _ pt fs (1 + v) (bt9.at (bt9.free nptg npt) _) ((g9.same (Same.upd npt)).mono ?_) nptg ⟨ts3, SqT.of upd_same, f2, fun d r e x y => SqT.of (Same.upd npt _ _ (f3 d r e x y))⟩ ((tr'.nv pL).tree fl) (by omega)
      rw [List.length_map, hl']
      omega
end
end K5

namespace K5
open PySem PySem.Spec PyProof.Rows L2
def spNeigh (K : PySem.W.Frag) : Sp := fun vs H Q _ => ∃ (a : Addr) (ds : List (Nat × Nat)) (n x : Nat), vs = [.ref a, .int (x : Int)] ∧ HouseAt K H a ds ∧ Tree n ds ∧ n ≤ 1000 ∧
  ∀ (H' : Hp) (q : Addr) (l : List (Nat × Nat)), Same H H' → H q = none → PairsAt H' q l → (∀ y d, (y, d) ∈ l ↔ Joins ds d x y) → l.Nodup → l.length ≤ ds.length → Q (.ref q) H'
theorem in_pair (x a b : Int) : inV (.int x) [.int a, .int b] = (decide (x = a) || decide (x = b)) := by
  show ((a == x) || ((b == x) || false)) = _
  by_cases h1 : x = a
  · subst h1
    simp
  · by_cases h2 : x = b
    · subst h2
      simp [h1]
    · have e1 : (a == x) = false := beq_eq_false_iff_ne.mpr (Ne.symm h1)
      have e2 : (b == x) = false := beq_eq_false_iff_ne.mpr (Ne.symm h2)
      rw [e1, e2, decide_eq_false h1, decide_eq_false h2]
      rfl
theorem nb_mem {ds : List (Nat × Nat)} {l : List (Nat × Nat)} {k x z : Nat} {e : Nat × Nat} (he : ds[k]? = some e) (mem : ∀ y d, (y, d) ∈ l ↔ d < k ∧ Joins ds d x y) (hz : (x = e.1 ∧ z = e.2) ∨ (x = e.2 ∧ z = e.1)) (ne : e.1 ≠ e.2) (y d : Nat) :
    (y, d) ∈ l ++ [(z, k)] ↔ d < k + 1 ∧ Joins ds d x y := by
  rw [List.mem_append, List.mem_singleton, Prod.mk.injEq, mem y d]
  have jk : Joins ds k x z := by
    rcases hz with ⟨rfl, rfl⟩ | ⟨rfl, rfl⟩
    · exact .inl he
    · exact .inr he
  have nxz : x ≠ z := by
    rcases hz with ⟨rfl, rfl⟩ | ⟨rfl, rfl⟩
    · exact ne
    · exact ne.symm
  constructor
  · rintro (⟨h1, h2⟩ | ⟨rfl, rfl⟩)
    · exact ⟨by omega, h2⟩
    · exact ⟨by omega, jk⟩
  · rintro ⟨h1, h2⟩
    by_cases q : d = k
    · subst q
      exact .inr ⟨(jk.other h2 nxz).symm, rfl⟩
    · exact .inl ⟨by omega, h2⟩
theorem nb_skip {ds : List (Nat × Nat)} {l : List (Nat × Nat)} {k x : Nat} {e : Nat × Nat} (he : ds[k]? = some e) (mem : ∀ y d, (y, d) ∈ l ↔ d < k ∧ Joins ds d x y) (h1 : x ≠ e.1) (h2 : x ≠ e.2) (y d : Nat) :
    (y, d) ∈ l ↔ d < k + 1 ∧ Joins ds d x y := by
  rw [mem y d]
  constructor
  · rintro ⟨a, b⟩
    exact ⟨by omega, b⟩
  · rintro ⟨a, b⟩
    refine ⟨?_, b⟩
    by_cases q : d = k
    · subst q
      rcases b with h | h <;> rw [he] at h <;> cases h
      · exact absurd rfl h1
      · exact absurd rfl h2
    · omega
section
variable {P : Program} {w : World} {K : PySem.W.Frag}
      {mg : Str → Option Value} {base : Heap}
theorem ok_neighbours (T : Bl mg) (D : Def K mg "_law_neighbours" s_l_neighbours) : Cal P w K mg base "_law_neighbours" ["_law_doors", "_law_place"] 1 (spNeigh K) := by
  refine D.ok sc_l_neighbours (fun _ _ _ _ _ _ us hl => match us, hl with | [_, _], _ => rfl) (fun vs H Q E h => ?_) (fun f cdv A outer s H vs Q E hr h => ?_)
  · obtain ⟨a, ds, n, x, rfl, _⟩ := h
    rfl
  obtain ⟨a, ds, n, x, rfl, hH, tree, hn, q⟩ := h
  obtain ⟨rs, hrs, hlen, hds⟩ := id hH
  have hdn := tree.len
  refine ⟨_, (pss_cons (ps_set (i := 2) sc_l_neighbours.nd rfl (.inl rfl) (pe_lst pa_nil))
    (pss_cons (ps_for PassesOwn.never rfl (pi_enumT (by rfl) T.enumerate (pa_cons (pv 0) pa_nil)) (pg_tup (n := 2) rfl (pgs_cons (pg_name (i := 3) sc_l_neighbours.nd rfl (.inl rfl)) (pgs_cons (pg_name (i := 4) sc_l_neighbours.nd rfl (.inl rfl)) pgs_nil)))
    (pss_one (ps_if (pt_cmpR op_in_seq (pv 1) (pv 4) (by rfl)) (pss_one (ps_expr (pe_bm PySem.F.plainAttrs_list PySem.F.slot_list_append PySem.F.type_list_append mt_append (pv 2) (pa_cons (pe_tup (pa_cons (pe_ix ix_tup (pv 4) (pe_callTy call_int1 (by rfl) T.int (by decide +kernel) (pa_cons (pe_cmpR op_eq (pe_ix ix_tup (pv 4) pe_int (fun _ _ => rfl)) (pv 1) (nomark _)) pa_nil)) (fun _ _ => rfl)) (pa_cons (pv 3) pa_nil))) pa_nil)))) pss_nil)))
    (pss_one (ps_ret (pe_callB cr_sortedP (by rfl) T.sorted (by decide +kernel) (pa_cons (pv 2) pa_nil)))))), ?_⟩
  refine ⟨Nat.zero_le _, fun p np => ?_⟩
  refine ⟨_, rfl, a, _, rfl, (Same.upd np).tup hrs, ?_⟩
  refine for_it (walk_enumT (K := K) (a := a) (xs := rs.map V.ref)) (fun k σ H2 => ∃ l y3 y4, σ = [some (.ref a), some (.int (x : Int)), some (.ref p), y3, y4] ∧ Same H H2 ∧ PairsAt H2 p l ∧ (∀ y d, (y, d) ∈ l ↔ d < k ∧ Joins ds d x y) ∧ l.length ≤ k ∧ l.Nodup)
    ⟨[], _, _, rfl, Same.upd np, ⟨[], upd_same, rfl, fun i t e h => by simp at h⟩, fun y d => by simp, Nat.zero_le _, List.nodup_nil⟩ (fun i σ H1 _ ⟨_, _, _, _, sm, _⟩ => sm.tup hrs) ?_ ?_
  · rintro k v σ H2 H3 hk ⟨l, y3, y4, rfl, sm, pa, mem, le, nod⟩ ⟨t, x1, x2, rfl, nt, rfl, ex1, ex2⟩
    cases ex1
    have hk' : k < ds.length := by
      rw [List.length_map, hlen] at hk
      exact hk
    obtain ⟨e, he⟩ : ∃ e, ds[k]? = some e := get_of rfl hk'
    obtain ⟨r, hr0⟩ : ∃ r, rs[k]? = some r := get_of hlen hk'
    have ex2' : V.ref r = x2 := by
      have ex2 : (rs.map V.ref)[k]? = some x2 := ex2
      rw [List.getElem?_map, hr0] at ex2
      exact Option.some.inj ex2
    subst ex2'
    obtain ⟨side, s1, s2⟩ := tree.side
    have ene : e.1 ≠ e.2 := fun z => s1 k e he (by rw [z])
    have smt : Same H2 (upd H2 t (.tup [.int (k : Nat), .ref r])) := Same.upd nt
    have sm3 := sm.trans smt
    have pa3 := pa.same smt
    have htt : (upd H2 t (.tup [.int (k : Nat), .ref r])) t = some (.tup [.int (k : Nat), .ref r]) := upd_same
    generalize upd H2 t (.tup [.int (k : Nat), .ref r]) = H4 at sm3 pa3 smt htt
    have hrd := sm3.tup (hds k r e hr0 he)
    refine ⟨t, _, rfl, SqT.of htt, rfl, _, _, rfl, _, _, rfl, rfl, ?_⟩
    refine ⟨_, rfl, _, rfl, r, _, rfl, .inr hrd, rfl, rfl, _, rfl, ?_⟩
    show if inV (V.int (x : Int)) [V.int (e.1 : Int), V.int (e.2 : Int)] = true then _ else _
    rw [in_pair]
    have fin : ∀ (z : Nat), ((x = e.1 ∧ z = e.2) ∨ (x = e.2 ∧ z = e.1)) → ∀ (y3 y4 : Option V) (t2 : Addr), H4 t2 = none → ∃ ts : List Addr, H4 p = some (.lst (ts.map V.ref)) ∧ (ts.map V.ref).length < sizeLine ∧
        ∃ l' z3 z4, ([some (.ref a), some (.int (x : Int)), some (.ref p), y3, y4] : L2.St) = [some (.ref a), some (.int (x : Int)), some (.ref p), z3, z4] ∧ Same H (upd (upd H4 t2 (.tup [.int (z : Int), .int (k : Int)])) p (.lst (ts.map V.ref ++ [V.ref t2]))) ∧
          PairsAt (upd (upd H4 t2 (.tup [.int (z : Int), .int (k : Int)])) p (.lst (ts.map V.ref ++ [V.ref t2]))) p l' ∧ (∀ y d, (y, d) ∈ l' ↔ d < k + 1 ∧ Joins ds d x y) ∧ l'.length ≤ k + 1 ∧ l'.Nodup := by
      intro z hz y3 y4 t2 nt2
      obtain ⟨ts, f1, f2, f3⟩ := pa3
      refine ⟨ts, f1, by rw [List.length_map, f2]; exact small1000 (by omega), l ++ [(z, k)], _, _, rfl, (sm3.trans (Same.upd nt2)).at np, .push (ts := ts) f1 f2 f3 (fun b o ne e => by rw [upd_ne ne, upd_ne (ne_of_none e nt2)]; exact e) upd_same (by rw [upd_ne (ne_of_none f1 nt2).symm, upd_same]), nb_mem he mem hz ene, by simp; exact le, ?_⟩
      refine List.nodup_append.mpr ⟨nod, by simp, fun a ha b hb => ?_⟩
      rintro rfl
      rw [List.mem_singleton] at hb
      subst hb
      have := (mem z k).mp ha
      omega
    by_cases h1 : x = e.1
    · rw [decide_eq_true (show (x : Int) = (e.1 : Int) by omega), Bool.true_or]
      refine iteT ?_
      obtain ⟨ts0, f10, _⟩ := pa3
      refine ⟨_, rfl, .inl ⟨rfl, _, SqL.of f10⟩, _, rfl, _, rfl, r, _, _, _, rfl, rfl, hrd, atI_nat (j := 0) rfl, _, rfl, rfl, .inr ⟨_, rfl, ?_⟩⟩
      rw [decide_eq_true (show V.int (e.1 : Int) = V.int (x : Int) by rw [h1])]
      refine ⟨r, _, _, _, rfl, rfl, hrd, atI_nat (j := 1) rfl, _, rfl, by show 2 ≤ sizeLine; decide, fun t2 nt2 => ?_⟩
      obtain ⟨ts, g1, g2, g3⟩ := fin e.2 (.inl ⟨h1, rfl⟩) _ _ t2 nt2
      exact ⟨p, _, _, rfl, rfl, by rw [upd_ne (ne_of_none g1 nt2)]; exact g1, g2, g3⟩
    · by_cases h2 : x = e.2
      · rw [decide_eq_true (show (x : Int) = (e.2 : Int) by omega), Bool.or_true]
        refine iteT ?_
        obtain ⟨ts0, f10, _⟩ := pa3
        refine ⟨_, rfl, .inl ⟨rfl, _, SqL.of f10⟩, _, rfl, _, rfl, r, _, _, _, rfl, rfl, hrd, atI_nat (j := 0) rfl, _, rfl, rfl, .inr ⟨_, rfl, ?_⟩⟩
        rw [decide_eq_false (show ¬ V.int (e.1 : Int) = V.int (x : Int) from fun z => h1 (by have := V.int.inj z; omega))]
        refine ⟨r, _, _, _, rfl, rfl, hrd, atI_nat (j := 0) rfl, _, rfl, by show 2 ≤ sizeLine; decide, fun t2 nt2 => ?_⟩
        obtain ⟨ts, g1, g2, g3⟩ := fin e.1 (.inr ⟨h2, rfl⟩) _ _ t2 nt2
        exact ⟨p, _, _, rfl, rfl, by rw [upd_ne (ne_of_none g1 nt2)]; exact g1, g2, g3⟩
      · rw [decide_eq_false (show ¬ (x : Int) = (e.1 : Int) by omega), decide_eq_false (show ¬ (x : Int) = (e.2 : Int) by omega)]
        exact iteF ⟨l, _, _, rfl, sm3, pa3, nb_skip he mem h1 h2, by omega, nod⟩
  · rintro σ H2 ⟨l, y3, y4, rfl, sm, pa, mem, le, nod⟩
    obtain ⟨ts, f1, f2, f3⟩ := pa
    refine ⟨_, rfl, p, _, rfl, SqL.of f1, fun v hv => ?_, fun ys q0 pm nq => ?_⟩
    · obtain ⟨t, ht, rfl⟩ := List.mem_map.mp hv
      obtain ⟨i, hi⟩ := List.mem_iff_getElem?.mp ht
      obtain ⟨e, he⟩ := get_of f2.symm (get_lt hi)
      exact ⟨t, _, _, rfl, f3 i t e hi he⟩
    · obtain ⟨ts', l', rfl, pl, hl', pr'⟩ := PairsAt.perm f2 f3 pm
      refine q _ q0 l' (sm.trans (Same.upd nq)) (sm.free nq) ⟨ts', upd_same, hl', fun i t e x y => Same.upd nq _ _ (pr' i t e x y)⟩ (fun y d => ?_) (pl.nodup_iff.mpr nod) (by rw [pl.length_eq]; rw [List.length_map, hlen] at le; exact le)
      rw [pl.mem_iff, mem y d]
      refine ⟨fun h => h.2, fun h => ⟨?_, h⟩⟩
      rw [List.length_map, hlen]
      rcases h with h | h
      · exact get_lt h
      · exact get_lt h
end
end K5

namespace K5
open PySem PySem.Spec PyProof.Rows L2
/-! ### moves and states, as plain mathematics -/
/-- person, start, end -/
abbrev Mv := Nat × Nat × Nat
/-- where each person is; whom each door bars -/
abbrev S2 := List Nat × List Nat
theorem Tree.one_door {n ds} (T : Tree n ds) {d c x y : Nat} (j : Joins ds d x y) (k : Joins ds c x y) : d = c := by
  obtain ⟨side, s1, s2⟩ := T.side
  refine Classical.byContradiction fun h => ?_
  exact side_join s1 j (side_other s2 k h)
/-- the door between two rooms -/
def dix (ds : List (Nat × Nat)) (x y : Nat) : Nat := ((List.range ds.length).find? fun d => decide (ds[d]? = some (x, y) ∨ ds[d]? = some (y, x))).getD 0
theorem joins_lt {ds : List (Nat × Nat)} {d x y : Nat} (j : Joins ds d x y) : d < ds.length := by
  rcases j with j | j
  · exact get_lt j
  · exact get_lt j
theorem dix_is {n ds} (T : Tree n ds) {d x y : Nat} (j : Joins ds d x y) : dix ds x y = d := by
  unfold dix
  cases h : (List.range ds.length).find? fun d => decide (ds[d]? = some (x, y) ∨ ds[d]? = some (y, x)) with
  | none =>
    have := List.find?_eq_none.mp h d (List.mem_range.mpr (joins_lt j))
    exact absurd (decide_eq_true (show ds[d]? = some (x, y) ∨ ds[d]? = some (y, x) from j)) this
  | some c =>
    have k : ds[c]? = some (x, y) ∨ ds[c]? = some (y, x) := by
      have := List.find?_some h
      exact of_decide_eq_true this
    exact T.one_door k j
/-- a move that names a person and a door -/
def VM (ds : List (Nat × Nat)) (P : Nat) (m : Mv) : Prop := m.1 < P ∧ ∃ d, Joins ds d m.2.1 m.2.2
/-- why the move is not possible -/
def why (ds : List (Nat × Nat)) (S : S2) (m : Mv) : Option String :=
  if S.1.getD m.1 0 ≠ m.2.1 then some "away" else if S.2.getD (dix ds m.2.1 m.2.2) 0 = m.1 then some "barred" else none
def nxt (ds : List (Nat × Nat)) (S : S2) (m : Mv) : S2 := (S.1.set m.1 m.2.2, S.2.set (dix ds m.2.1 m.2.2) m.1)
def runs (ds : List (Nat × Nat)) : Nat → S2 → List Mv → (Nat × String) ⊕ S2
  | _, S, [] => .inr S
  | i, S, m :: r => match why ds S m with
    | some w => .inl (i, w)
    | none => runs ds (i + 1) (nxt ds S m) r
structure StOk (n : Nat) (ds : List (Nat × Nat)) (S : S2) : Prop where
  one : 1 ≤ S.1.length
  few : S.1.length ≤ 4
  rooms : ∀ x ∈ S.1, x < n
  doors : S.2.length = ds.length
  bars : ∀ y ∈ S.2, y < S.1.length
theorem StOk.nxt {n ds S m} (T : Tree n ds) (h : StOk n ds S) (v : VM ds S.1.length m) : StOk n ds (nxt ds S m) := by
  obtain ⟨v1, d, j⟩ := v
  obtain ⟨_, l2, _, _⟩ := j.lt T
  have e1 : (K5.nxt ds S m).1.length = S.1.length := List.length_set
  refine ⟨by rw [e1]; exact h.one, by rw [e1]; exact h.few, fun x hx => ?_, by rw [show (K5.nxt ds S m).2.length = S.2.length from List.length_set]; exact h.doors, fun y hy => ?_⟩
  · rcases List.mem_or_eq_of_mem_set hx with q | q
    · exact h.rooms x q
    · rw [q]; exact l2
  · rw [e1]
    rcases List.mem_or_eq_of_mem_set hy with q | q
    · exact h.bars y q
    · rw [q]; exact v1
theorem nxt_len {ds S m} : (nxt ds S m).1.length = S.1.length := List.length_set
theorem runs_drop {ds : List (Nat × Nat)} {S : S2} {ms : List Mv} {k : Nat} {m : Mv} (h : ms[k]? = some m) : runs ds k S (ms.drop k) = match why ds S m with
    | some w => .inl (k, w)
    | none => runs ds (k + 1) (nxt ds S m) (ms.drop (k + 1)) := by
  have hk := get_lt h
  have e : ms.drop k = m :: ms.drop (k + 1) := by
    rw [List.drop_eq_getElem_cons hk]
    rw [List.getElem?_eq_getElem hk] at h
    rw [Option.some.inj h]
  rw [e]
  rfl
/-- the moves that are possible -/
def Can (ds : List (Nat × Nat)) (S : S2) (m : Mv) : Prop := m.1 < S.1.length ∧ S.1[m.1]? = some m.2.1 ∧ ∃ d, Joins ds d m.2.1 m.2.2 ∧ S.2[d]? ≠ some m.1
theorem Can.vm {ds S m} (h : Can ds S m) : VM ds S.1.length m := ⟨h.1, h.2.2.choose, h.2.2.choose_spec.1⟩
theorem getD_of {l : List Nat} {i x : Nat} (h : l[i]? = some x) : l.getD i 0 = x := by
  rw [List.getD_eq_getElem?_getD, h]
  rfl
theorem Can.why {n ds S m} (T : Tree n ds) (h : Can ds S m) (o : StOk n ds S) : why ds S m = none := by
  obtain ⟨h1, h2, d, j, h3⟩ := h
  unfold K5.why
  rw [if_neg (by rw [getD_of h2]; simp), dix_is T j]
  have hd : d < S.2.length := by rw [o.doors]; exact joins_lt j
  obtain ⟨b, hb⟩ : ∃ b, S.2[d]? = some b := get_of rfl hd
  rw [getD_of hb, if_neg]
  intro z
  exact h3 (by rw [hb, z])
def mcode (m : Mv) : Int := TS.code 64 [(m.1 : Int), (m.2.1 : Int), (m.2.2 : Int)]
theorem mcode_is (m : Mv) : mcode m = (m.1 : Int) * 4096 + (m.2.1 : Int) * 64 + (m.2.2 : Int) := by
  unfold mcode
  show (m.1 : Int) * 64 ^ 2 + ((m.2.1 : Int) * 64 ^ 1 + ((m.2.2 : Int) * 64 ^ 0 + 0)) = _
  rw [show (64 : Int) ^ 2 = 4096 by decide, show (64 : Int) ^ 1 = 64 by decide, show (64 : Int) ^ 0 = 1 by decide]
  omega
def Sm (m : Mv) : Prop := m.1 < 64 ∧ m.2.1 < 64 ∧ m.2.2 < 64
theorem mcode_inj {m m' : Mv} (a : Sm m) (b : Sm m') (e : mcode m = mcode m') : m = m' := by
  obtain ⟨x, y, z⟩ := m
  obtain ⟨x', y', z'⟩ := m'
  rw [mcode_is, mcode_is] at e
  unfold Sm at a b
  simp only at e a b
  have h1 : x = x' := by omega
  have h2 : y = y' := by omega
  have h3 : z = z' := by omega
  rw [h1, h2, h3]
/-- the moves with P, each once, ascending -/
structure Canon (l : List Mv) (P : Mv → Prop) : Prop where
  mem : ∀ m, m ∈ l ↔ P m
  sm : ∀ m ∈ l, Sm m
  asc : l.Pairwise fun a b => mcode a < mcode b
theorem asc_unique : ∀ (l l' : List Mv), (l.Pairwise fun a b => mcode a < mcode b) → (l'.Pairwise fun a b => mcode a < mcode b) → (∀ m, m ∈ l ↔ m ∈ l') → (∀ m ∈ l, Sm m) → l = l'
  | [], [], _, _, _, _ => rfl
  | [], b :: r, _, _, h, _ => by
    have := (h b).mpr List.mem_cons_self
    cases this
  | a :: r, [], _, _, h, _ => by
    have := (h a).mp List.mem_cons_self
    cases this
  | a :: r, b :: r', p, p', h, sm => by
    obtain ⟨p1, p2⟩ := List.pairwise_cons.mp p
    obtain ⟨q1, q2⟩ := List.pairwise_cons.mp p'
    have e : a = b := by
      rcases List.mem_cons.mp ((h a).mp List.mem_cons_self) with e | h1
      · exact e
      · rcases List.mem_cons.mp ((h b).mpr List.mem_cons_self) with e | h2
        · exact e.symm
        · have := p1 b h2
          have := q1 a h1
          omega
    subst e
    have : r = r' := by
      refine asc_unique r r' p2 q2 (fun m => ?_) fun m hm => sm m (List.mem_cons_of_mem _ hm)
      constructor
      · intro hm
        rcases List.mem_cons.mp ((h m).mp (List.mem_cons_of_mem _ hm)) with e | h1
        · subst e
          have := p1 m hm
          omega
        · exact h1
      · intro hm
        rcases List.mem_cons.mp ((h m).mpr (List.mem_cons_of_mem _ hm)) with e | h1
        · subst e
          have := q1 m hm
          omega
        · exact h1
    rw [this]
theorem Canon.unique {l l' P} (a : Canon l P) (b : Canon l' P) : l = l' := asc_unique l l' a.asc b.asc (fun m => (a.mem m).trans (b.mem m).symm) a.sm
/-! ### how they stand in the heap -/
def tI (m : Mv) : List V := [.int (m.1 : Int), .int (m.2.1 : Int), .int (m.2.2 : Int)]
def TL (H : Hp) (ts : List Addr) (l : List Mv) : Prop := ts.length = l.length ∧ ∀ (i : Nat) (t : Addr) (m : Mv), ts[i]? = some t → l[i]? = some m → H t = some (.tup (tI m))
def TrisAt (H : Hp) (q : Addr) (l : List Mv) : Prop := ∃ ts : List Addr, H q = some (.lst (ts.map V.ref)) ∧ TL H ts l
def StateAt (K : PySem.W.Frag) (H : Hp) (a : Addr) (S : S2) : Prop := ∃ r b : Addr, SqT K H a [.ref r, .ref b] ∧ SqT K H r (nv S.1) ∧ SqT K H b (nv S.2)
section
variable {K : PySem.W.Frag} {H H' : Hp} {a g q t : Addr} {S : S2} {l : List Mv} {ts : List Addr} {m : Mv}
theorem StateAt.same (h : StateAt K H a S) (s : Same H H') : StateAt K H' a S := by
  obtain ⟨r, b, h1, h2, h3⟩ := h
  exact ⟨r, b, s.tup h1, s.tup h2, s.tup h3⟩
theorem StateAt.but {xs : List V} (h : StateAt K H a S) (hg : H g = some (.lst xs)) (s : But g H H') : StateAt K H' a S := by
  obtain ⟨r, b, h1, h2, h3⟩ := h
  exact ⟨r, b, s.tup hg h1, s.tup hg h2, s.tup hg h3⟩
theorem TL.same (h : TL H ts l) (s : Same H H') : TL H' ts l := ⟨h.1, fun i t m x y => s _ _ (h.2 i t m x y)⟩
theorem TL.but {xs : List V} (h : TL H ts l) (hg : H g = some (.lst xs)) (s : But g H H') : TL H' ts l := ⟨h.1, fun i t m x y => s _ _ (ne_lt hg (h.2 i t m x y)) (h.2 i t m x y)⟩
theorem TL.nil : TL H [] [] := ⟨rfl, fun i t m x => by simp at x⟩
theorem TL.append {ts2 : List Addr} {l2 : List Mv} (h : TL H ts l) (h2 : TL H ts2 l2) : TL H (ts ++ ts2) (l ++ l2) := by
  refine ⟨by rw [List.length_append, List.length_append, h.1, h2.1], fun i t m x y => ?_⟩
  by_cases hi : i < ts.length
  · rw [List.getElem?_append_left hi] at x
    rw [List.getElem?_append_left (by rw [← h.1]; exact hi)] at y
    exact h.2 i t m x y
  · rw [List.getElem?_append_right (by omega)] at x
    rw [List.getElem?_append_right (by rw [← h.1]; omega), ← h.1] at y
    exact h2.2 _ t m x y
theorem TL.one (h : H t = some (.tup (tI m))) : TL H [t] [m] := by
  refine ⟨rfl, fun i t' m' x y => ?_⟩
  match i with
  | 0 => cases x; cases y; exact h
  | i + 1 => simp at x
theorem TL.take (h : TL H ts l) (k : Nat) : TL H (ts.take k) (l.take k) := by
  refine ⟨by rw [List.length_take, List.length_take, h.1], fun i t m x y => ?_⟩
  rw [List.getElem?_take] at x y
  split at x
  · rename_i hi
    rw [if_pos hi] at y
    exact h.2 i t m x y
  · cases x
theorem TL.drop (h : TL H ts l) (k : Nat) : TL H (ts.drop k) (l.drop k) := by
  refine ⟨by rw [List.length_drop, List.length_drop, h.1], fun i t m x y => ?_⟩
  rw [List.getElem?_drop] at x y
  exact h.2 _ t m x y
theorem TrisAt.same (h : TrisAt H q l) (s : Same H H') : TrisAt H' q l := by
  obtain ⟨ts, h1, h2⟩ := h
  exact ⟨ts, s _ _ h1, h2.same s⟩
theorem TL.perm (h : TL H ts l) {ys : List V} (p : ys.Perm (ts.map V.ref)) : ∃ (ts' : List Addr) (l' : List Mv), ys = ts'.map V.ref ∧ l'.Perm l ∧ TL H ts' l' := by
  have e1 : ts.map V.ref = (ts.zip l).map (fun z => V.ref z.1) := by
    have e : (ts.zip l).map (fun z => V.ref z.1) = ((ts.zip l).map Prod.fst).map V.ref := by rw [List.map_map]; rfl
    rw [e, List.map_fst_zip (by rw [h.1]; omega)]
  rw [e1] at p
  obtain ⟨zs, ez, pz⟩ := perm_of_map _ _ _ p
  refine ⟨zs.map Prod.fst, zs.map Prod.snd, by rw [ez, List.map_map]; rfl, ?_, by simp, fun i t e a b => ?_⟩
  · have q := pz.map Prod.snd
    rw [List.map_snd_zip (by rw [h.1]; omega)] at q
    exact q
  · rw [List.getElem?_map] at a b
    cases hz : zs[i]? with
    | none => rw [hz] at a; cases a
    | some z =>
      rw [hz] at a b
      cases a
      cases b
      have hm := pz.mem_iff.mp (List.mem_of_getElem? hz)
      obtain ⟨j, hj⟩ := List.mem_iff_getElem?.mp hm
      rw [List.getElem?_zip_eq_some] at hj
      exact h.2 j _ _ hj.1 hj.2
/-- sorted's answer over such moves -/
theorem sorted_canon {ys : List V} {P : Mv → Prop} (h : TL H ts l) (mem : ∀ m, m ∈ l ↔ P m) (sm : ∀ m ∈ l, Sm m) (nd : l.Nodup) (pm : ys.Perm (ts.map V.ref))
    (asc : ys.Pairwise fun x y => ∀ n m, TupI K H x n → TupI K H y m → TS.code 64 n ≤ TS.code 64 m) : ∃ (ts' : List Addr) (l' : List Mv), ys = ts'.map V.ref ∧ Canon l' P ∧ TL H ts' l' := by
  obtain ⟨ts', l', rfl, pl, tl⟩ := h.perm pm
  have nd' := pl.nodup_iff.mpr nd
  refine ⟨ts', l', rfl, ⟨fun m => pl.mem_iff.trans (mem m), fun m hm => sm m (pl.mem_iff.mp hm), ?_⟩, tl⟩
  rw [List.pairwise_iff_getElem]
  intro i j hi hj hij
  have hi' : i < ts'.length := by rw [tl.1]; exact hi
  have hj' : j < ts'.length := by rw [tl.1]; exact hj
  have a1 := List.pairwise_iff_getElem.mp asc i j (by rw [List.length_map]; exact hi') (by rw [List.length_map]; exact hj') hij
  rw [List.getElem_map, List.getElem_map] at a1
  have t1 := tl.2 i ts'[i] l'[i] (List.getElem?_eq_getElem hi') (List.getElem?_eq_getElem hi)
  have t2 := tl.2 j ts'[j] l'[j] (List.getElem?_eq_getElem hj') (List.getElem?_eq_getElem hj)
  have le : mcode l'[i] ≤ mcode l'[j] := a1 _ _ ⟨_, rfl, SqT.of t1⟩ ⟨_, rfl, SqT.of t2⟩
  have ne : mcode l'[i] ≠ mcode l'[j] := by
    intro e
    have := mcode_inj (sm _ (pl.mem_iff.mp (List.getElem_mem hi))) (sm _ (pl.mem_iff.mp (List.getElem_mem hj))) e
    exact absurd this (List.pairwise_iff_getElem.mp nd' i j hi hj hij)
  omega
theorem tup_of {m : Mv} (h : H t = some (.tup (tI m))) (sm : Sm m) : ∃ ns, TupI K H (.ref t) ns ∧ ns.length = 3 ∧ TS.Bd 64 ns := by
  refine ⟨[(m.1 : Int), (m.2.1 : Int), (m.2.2 : Int)], ⟨t, rfl, SqT.of h⟩, rfl, ?_⟩
  obtain ⟨h1, h2, h3⟩ := sm
  intro x hx
  simp only [List.mem_cons, List.not_mem_nil,
        or_false] at hx
  rcases hx with rfl | rfl | rfl <;> omega
end
/-! ### as data -/
def dM (m : Mv) : PyData := .tuple [.int (m.1 : Int), .int (m.2.1 : Int), .int (m.2.2 : Int)]
def dMs (l : List Mv) : PyData := .list (l.map dM)
def dIs (l : List Nat) : List PyData := (l.map fun x : Nat => (x : Int)).map PyData.int
def dS (S : S2) : PyData := .tuple [.tuple (dIs S.1), .tuple (dIs S.2)]
def dO : (Nat × String) ⊕ S2 → PyData
  | .inl (i, w) => .list [.int (i : Int), .tuple [.str (Str.ofString w)]]
  | .inr S => dS S
theorem dIs_lay : ∀ l : List Nat, PyData.canLayAll0 (dIs l) = true
  | [] => by simp [dIs, PyData.canLayAll0]
  | x :: r => by
    have := dIs_lay r
    unfold dIs at this ⊢
    simp only [List.map_cons, PyData.canLayAll0, PyData.canLay0, this, Bool.and_true]
theorem dIs_depth : ∀ l : List Nat, PyData.depthAll (dIs l) ≤ 1
  | [] => by simp [dIs, PyData.depthAll]
  | x :: r => by
    have := dIs_depth r
    unfold dIs at this ⊢
    simp only [List.map_cons, PyData.depthAll,
          PyData.depth]
    omega
theorem dM_lay (z : Mv) : (dM z).canLay0 = true := by simp [dM, PyData.canLay0, PyData.canLayAll0]
theorem dM_depth (z : Mv) : (dM z).depth ≤ 2 := by simp [dM, PyData.depth, PyData.depthAll]
theorem dMs_lay : ∀ zs : List Mv, PyData.canLayAll0 (zs.map dM) = true
  | [] => by simp [PyData.canLayAll0]
  | z :: zs => by simp [PyData.canLayAll0, dM_lay z, dMs_lay zs]
theorem dMs_depth : ∀ zs : List Mv, PyData.depthAll (zs.map dM) ≤ 2
  | [] => by simp [PyData.depthAll]
  | z :: zs => by
    have h1 := dMs_depth zs
    have h2 := dM_depth z
    simp only [List.map_cons, PyData.depthAll]
    omega
theorem shaped_mk {d : PyData} (h1 : d.canLay0 = true) (h2 : d.depth ≤ 64) : SeqAt.shaped d = true := by
  show (d.canLay0 && decide (d.depth ≤ 64)) = true
  rw [h1, decide_eq_true h2]
  rfl
theorem dMs_shaped (l : List Mv) : SeqAt.shaped (dMs l) = true := by
  have h := dMs_depth l
  refine shaped_mk ?_ ?_
  · simp only [dMs, PyData.canLay0]
    exact dMs_lay l
  · simp only [dMs, PyData.depth]
    omega
theorem dS_shaped (S : S2) : SeqAt.shaped (dS S) = true := by
  have h1 := dIs_depth S.1
  have h2 := dIs_depth S.2
  have h3 := dIs_lay S.1
  have h4 := dIs_lay S.2
  refine shaped_mk ?_ ?_
  · simp only [dS, PyData.canLay0, PyData.canLayAll0, h3, h4, Bool.and_true]
  · simp only [dS, PyData.depth, PyData.depthAll]
    omega
theorem dO_shaped {o : (Nat × String) ⊕ S2} (h : ∀ i w, o = .inl (i, w) → w = "away" ∨ w = "barred") : SeqAt.shaped (dO o) = true := by
  match o, h with
  | .inl (i, w), h =>
    have hw : PyData.strOk (Str.ofString w) = true := by
      rcases h i w rfl with rfl | rfl
      · decide +kernel
      · decide +kernel
    refine shaped_mk ?_ ?_
    · simp only [dO, PyData.canLay0, PyData.canLayAll0, hw, Bool.and_true]
    · simp only [dO, PyData.depth, PyData.depthAll]
      omega
  | .inr S, _ => exact dS_shaped S
theorem why_word {ds S m w} (h : why ds S m = some w) : w = "away" ∨ w = "barred" := by
  unfold why at h
  split at h
  · exact .inl (Option.some.inj h).symm
  · split at h
    · exact .inr (Option.some.inj h).symm
    · cases h
theorem runs_word {ds : List (Nat × Nat)} : ∀ {ms : List Mv} {k : Nat} {S : S2} {i : Nat} {w : String}, runs ds k S ms = .inl (i, w) → w = "away" ∨ w = "barred"
  | [], k, S, i, w, h => by
    rw [runs] at h
    cases h
  | m :: r, k, S, i, w, h => by
    rw [runs] at h
    split at h
    · rename_i w' e
      cases h
      exact why_word e
    · exact runs_word h
theorem d_refl {d : PyData} (h : SeqAt.shaped d = true) : PyData.eqv d d = true := SeqAt.eqv_refl _ (SeqAt.canLay_of_shaped h)
section
variable {K : PySem.W.Frag} {H : Hp} {a q t : Addr} {S : S2} {l : List Mv} {ts : List Addr} {m : Mv}
theorem dp_is : ∀ l : List Nat, DpAll K H (nv l) (dIs l)
  | [] => .nil
  | x :: r => .cons (.int _) (dp_is r)
theorem dp_S (h : StateAt K H a S) : Dp K H (.ref a) (dS S) := by
  obtain ⟨r, b, h1, h2, h3⟩ := h
  exact .tup h1 (.cons (.tup h2 (dp_is _)) (.cons (.tup h3 (dp_is _)) .nil))
theorem dp_M (h : H t = some (.tup (tI m))) : Dp K H (.ref t) (dM m) := .tup (SqT.of h) (.cons (.int _) (.cons (.int _) (.cons (.int _) .nil)))
theorem dp_Ms : ∀ (ts : List Addr) (l : List Mv), TL H ts l → DpAll K H (ts.map V.ref) (l.map dM)
  | [], [], _ => .nil
  | [], m :: l, h => by have := h.1; simp at this
  | t :: ts, [], h => by have := h.1; simp at this
  | t :: ts, m :: l, h => .cons (dp_M (h.2 0 t m rfl rfl)) (dp_Ms ts l ⟨by have := h.1; simpa using this, fun i t' m' x y => h.2 (i + 1) t' m' x y⟩)
theorem dp_Tris (h : TrisAt H q l) : Dp K H (.ref q) (dMs l) := by
  obtain ⟨ts, h1, h2⟩ := h
  exact .lst (SqL.of h1) (dp_Ms ts l h2)
end
end K5

namespace K5
open PySem PySem.Spec PyProof.Rows L2
#check @L2.ps_ost
#check @L2.pmk_oex
def mem0 (s : Stmt) : Stmt := match s with
  | .ClassDef _ _ _ (b :: _) _ _ _ _ _ _ _ => b
  | _ => .Pass ⟨0, 0, 0, 0⟩
abbrev s_ip : Stmt := mem0 (top 4)
abbrev N_ip : List Str := ["self", "reason"]
theorem sc_ip : FnScope N_ip ["self", "reason"] (defScope s_ip) := ⟨rfl, rfl, rfl, by decide +kernel, rfl, by decide +kernel, by decide +kernel⟩
abbrev s_mb : Stmt := mem0 (top 6)
abbrev N_mb : List Str := ["self", "index", "reason"]
theorem sc_mb : FnScope N_mb ["self", "index", "reason"] (defScope s_mb) := ⟨rfl, rfl, rfl, by decide +kernel, rfl, by decide +kernel, by decide +kernel⟩
def spIp (C : Addr) : Sp := fun vs H Q _ => ∃ (a : Addr) (y : V), vs = [.ref a, y] ∧ H a = some (exo a C none) ∧ ∀ d, H d = none → d ≠ a → Q .non (upd (upd H d (exd d [("reason", y)])) a (exo a C (some d)))
def spMb (C : Addr) : Sp := fun vs H Q _ => ∃ (a : Addr) (x y : V), vs = [.ref a, x, y] ∧ H a = some (exo a C none) ∧
  ∀ d, H d = none → d ≠ a → Q .non (upd (upd (upd H d (exd d [("index", x)])) a (exo a C (some d))) d (exd d [("reason", y), ("index", x)]))
/-- what the top holds of an error's class -/
structure ErrC (K : PySem.W.Frag) (mg : Str → Option Value) (x : Str) (C fI : Addr) : Prop where
  g : mg x = some (.ref C)
  o : OexC K C
  f : XfC K C
  i : PySem.W.findIn K (.ref C) "__init__" = some (some (.ref fI))
  t : PySem.W.typeIn K (.ref fI) = some (.type "function")
  r : PySem.W.findIn K (.ref C) "reason" = some none
section
variable {P : Program} {w : World} {K : PySem.W.Frag}
      {mg : Str → Option Value} {base : Heap}
theorem ok_ip {C f : Addr} {fd : FuncData} (T : ErrC K mg "InvalidPlan" C f) (F : FunD K "__init__" "InvalidPlan.__init__" (defArgs s_ip) (defBody s_ip) (defScope s_ip) [.non] [] f fd) : FnOk P w K mg base CX0 1 f fd ["self", "reason"] (spIp C) := by
  refine F.ok (CX := CX0) sc_ip (fun vs H Q E h => ?_) (fun cdv A outer s H vs Q E hr h => ?_)
  · obtain ⟨a, y, rfl, _⟩ := h
    rfl
  obtain ⟨a, y, rfl, ha, q⟩ := h
  refine ⟨_, (pss_one (ps_ost (pv 0) (pv 1))), ?_⟩
  exact ⟨_, rfl, _, rfl, a, C, rfl, T.o, T.r, .inl ⟨ha, fun d nd ne => q d nd ne⟩⟩
theorem b_ip {f : Addr} {fd : FuncData} (F : FunD K "__init__" "InvalidPlan.__init__" (defArgs s_ip) (defBody s_ip) (defScope s_ip) [.non] [] f fd) : Binds K fd ["self", "reason"] [] := by
  obtain ⟨ds, v, b⟩ := F.binds1 (ps := ["self", "reason"]) 2 1 (by simp) rfl (fun T kV doc pm an cdv ct us its hl hl2 => match us, hl, its, hl2 with | [_, _], _, [_], _ => ⟨_, rfl, rfl⟩)
  cases v
  exact b
theorem ok_mb {C f : Addr} {fd : FuncData} (T : ErrC K mg "MoveBlocked" C f) (Ti : PySem.W.findIn K (.ref C) "index" = some none) (F : FunD K "__init__" "MoveBlocked.__init__" (defArgs s_mb) (defBody s_mb) (defScope s_mb) [.non, .non] [] f fd) : FnOk P w K mg base CX0 1 f fd ["self", "index", "reason"] (spMb C) := by
  refine F.ok (CX := CX0) sc_mb (fun vs H Q E h => ?_) (fun cdv A outer s H vs Q E hr h => ?_)
  · obtain ⟨a, x, y, rfl, _⟩ := h
    rfl
  obtain ⟨a, x, y, rfl, ha, q⟩ := h
  refine ⟨_, (pss_cons (ps_ost (pv 0) (pv 1)) (pss_one (ps_ost (pv 0) (pv 2)))), ?_⟩
  refine ⟨_, rfl, _, rfl, a, C, rfl, T.o, Ti, .inl ⟨ha, fun d nd ne => ?_⟩⟩
  refine ⟨_, rfl, _, rfl, a, C, rfl, T.o, T.r, .inr ⟨d, _, upd_same, by rw [upd_ne ne, upd_same], by show 1 ≤ 900; decide, q d nd ne⟩⟩
theorem b_mb {f : Addr} {fd : FuncData} (F : FunD K "__init__" "MoveBlocked.__init__" (defArgs s_mb) (defBody s_mb) (defScope s_mb) [.non, .non] [] f fd) : Binds K fd ["self", "index", "reason"] [] := by
  obtain ⟨ds, v, b⟩ := F.binds1 (ps := ["self", "index", "reason"]) 3 2 (by simp) rfl (fun T kV doc pm an cdv ct us its hl hl2 => match us, hl, its, hl2 with | [_, _, _], _, [_, _], _ => ⟨_, rfl, rfl⟩)
  cases v
  exact b
end
end K5

namespace K5
open PySem PySem.Spec PyProof.Rows L2
theorem nv_some {L : List Nat} {k : Nat} {x : V} (h : (nv L)[k]? = some x) : ∃ v, L[k]? = some v ∧ x = .int (v : Int) := by
  unfold nv at h
  rw [List.getElem?_map] at h
  cases e : L[k]? with
  | none => rw [e] at h; cases h
  | some v => rw [e] at h; exact ⟨v, rfl, (Option.some.inj h).symm⟩
/-- the key of a pair of rooms -/
def kD (x y : Nat) : List Key := [.inl (x : Int), .inl (y : Int)]
theorem kD_inj {a b x y : Nat} (h : kD a b = kD x y) : a = x ∧ b = y := by
  unfold kD at h
  have h1 := List.cons.inj h
  have h2 := List.cons.inj h1.2
  have e1 := Sum.inl.inj h1.1
  have e2 := Sum.inl.inj h2.1
  omega
/-- the dict of the doors ahead of door k -/
structure DrD (ds : List (Nat × Nat)) (k : Nat) (kvs : List (List Key × V)) : Prop where
  at_ : ∀ d x y, d < k → Joins ds d x y → valV kvs (kD x y) = some (.int (d : Int))
  len : kvs.length ≤ 2 * k
theorem put_len {κ : Type} [DecidableEq κ] (kvs : List (κ × V)) (k : κ) (v : V) : (putK kvs k v).length ≤ kvs.length + 1 := by
  unfold putK
  split
  · rw [List.length_map]; omega
  · simp
theorem DrD.step {n ds k kvs} {e : Nat × Nat} (T : Tree n ds) (h : DrD ds k kvs) (he : ds[k]? = some e) : DrD ds (k + 1) (putK (putK kvs (kD e.1 e.2) (.int (k : Int))) (kD e.2 e.1) (.int (k : Int))) := by
  have j : Joins ds k e.1 e.2 := .inl he
  refine ⟨fun d x y hd jd => ?_, ?_⟩
  · rw [valV_put, valV_put]
    by_cases c : d = k
    · subst c
      have hc : (x = e.1 ∧ y = e.2) ∨ (x = e.2 ∧ y = e.1) := by
        rcases jd with q | q <;> rw [he] at q <;> cases q
        · exact .inl ⟨rfl, rfl⟩
        · exact .inr ⟨rfl, rfl⟩
      rcases hc with ⟨rfl, rfl⟩ | ⟨rfl, rfl⟩
      · by_cases q : kD e.1 e.2 = kD e.2 e.1
        · rw [if_pos q]
        · rw [if_neg q, if_pos rfl]
      · rw [if_pos rfl]
    · have n1 : kD x y ≠ kD e.2 e.1 := fun q => by
        obtain ⟨rfl, rfl⟩ := kD_inj q
        exact c (T.one_door jd j.symm)
      have n2 : kD x y ≠ kD e.1 e.2 := fun q => by
        obtain ⟨rfl, rfl⟩ := kD_inj q
        exact c (T.one_door jd j)
      rw [if_neg n1, if_neg n2]
      exact h.at_ d x y (by omega) jd
  · have h1 := put_len kvs (kD e.1 e.2) (.int (k : Int))
    have h2 := put_len (putK kvs (kD e.1 e.2) (.int (k : Int))) (kD e.2 e.1) (.int (k : Int))
    have := h.len
    omega
def spSt (K : PySem.W.Frag) : Sp := fun vs H Q _ => ∃ (a s : Addr) (ds : List (Nat × Nat)) (n : Nat) (S : S2), vs = [.ref a, .ref s] ∧ HouseAt K H a ds ∧ Tree n ds ∧ n ≤ 1000 ∧ StateAt K H s S ∧ StOk n ds S ∧ ∀ H', Same H H' → Q .non H'
def spShape (K : PySem.W.Frag) : Sp := fun vs H Q _ => ∃ (a s : Addr) (ds : List (Nat × Nat)) (n : Nat) (S : S2), vs = [.ref a, .ref s] ∧ HouseAt K H a ds ∧ StateAt K H s S ∧ StOk n ds S ∧ Q (.bl true) H
def spDoors (K : PySem.W.Frag) : Sp := fun vs H Q _ => ∃ (a : Addr) (ds : List (Nat × Nat)) (n : Nat), vs = [.ref a] ∧ HouseAt K H a ds ∧ Tree n ds ∧ n ≤ 1000 ∧
  ∀ (H' : Hp) (p : Addr) (kvs : List (List Key × V)), Same H H' → H p = none → H' p = some (.dT kvs) → DrD ds ds.length kvs → Q (.ref p) H'
section
variable {P : Program} {w : World} {K : PySem.W.Frag}
      {mg : Str → Option Value} {base : Heap}
theorem ok_has_state_shape (T : Bl mg) (D : Def K mg "has_state_shape" s_has_state_shape) : Cal P w K mg base "has_state_shape" ["house", "value"] 1 (spShape K) := by
  refine D.ok sc_has_state_shape (fun _ _ _ _ _ _ us hl => match us, hl with | [_, _], _ => rfl) (fun vs H Q E h => ?_) (fun f cdv A outer s H vs Q E hr h => ?_)
  · obtain ⟨a, s, ds, n, S, rfl, _⟩ := h
    rfl
  obtain ⟨a, s, ds, n, S, rfl, ⟨rs, hrs, hlen, hds⟩, ⟨r, b, h1, h2, h3⟩, ok, q⟩ := h
  refine ⟨_, (pss_cons (ps_if (PW.pt (pw_or (pt_not (pt_val (pe_callB call_isi (by rfl) T.isinstance (by decide +kernel) (pa_cons (pv 1) (pa_cons (pe_bltn (v := .ty "tuple") (u := .type "tuple") (by rfl) T.tuple (by decide +kernel) rfl) pa_nil))))) (pw_or1 (pt_cmpR op_ne (pe_callB call_len_seq (by rfl) T.len PySem.boot_len (pa_cons (pv 1) pa_nil)) pe_int (nomark _))))) (pss_one (ps_ret pe_bl)) pss_nil)
    (pss_cons (ps_asg (pv 1) (pg_tup (n := 2) rfl (pgs_cons (pg_name (i := 2) sc_has_state_shape.nd rfl (.inl rfl)) (pgs_cons (pg_name (i := 3) sc_has_state_shape.nd rfl (.inl rfl)) pgs_nil))))
    (pss_cons (ps_if (PW.pt (pw_or (pt_not (pt_val (pe_callB call_isi (by rfl) T.isinstance (by decide +kernel) (pa_cons (pv 2) (pa_cons (pe_bltn (v := .ty "tuple") (u := .type "tuple") (by rfl) T.tuple (by decide +kernel) rfl) pa_nil))))) (pw_or1 (pt_not (pt_val (pe_callB call_isi (by rfl) T.isinstance (by decide +kernel) (pa_cons (pv 3) (pa_cons (pe_bltn (v := .ty "tuple") (u := .type "tuple") (by rfl) T.tuple (by decide +kernel) rfl) pa_nil)))))))) (pss_one (ps_ret pe_bl)) pss_nil)
    (pss_one (ps_ret (pe_and (pe_cmpR op_ge (pe_callB call_len_seq (by rfl) T.len PySem.boot_len (pa_cons (pv 2) pa_nil)) pe_int (nomark _)) (pe_one (pe_cmpR op_eq (pe_callB call_len_seq (by rfl) T.len PySem.boot_len (pa_cons (pv 3) pa_nil)) (pe_callB call_len_seq (by rfl) T.len PySem.boot_len (pa_cons (pv 0) pa_nil)) (nomark _))))))))), ?_⟩
  refine ⟨_, rfl, _, _, _, _, _, rfl, .ty _, ty_tup h1, kit_ty (r := true) (by decide +kernel), _, rfl, iteF ?_⟩
  refine ⟨_, rfl, _, _, rfl, .inr h1, rfl, _, rfl, iteF ?_⟩
  refine ⟨_, rfl, _, _, rfl, h1, rfl, _, _, rfl, _, _, rfl, rfl, ?_⟩
  refine ⟨_, rfl, _, _, _, _, _, rfl, .ty _, ty_tup h2, kit_ty (r := true) (by decide +kernel), _, rfl, iteF ?_⟩
  refine ⟨_, rfl, _, _, _, _, _, rfl, .ty _, ty_tup h3, kit_ty (r := true) (by decide +kernel), _, rfl, iteF ?_⟩
  have o1 := ok.one
  refine ⟨_, rfl, _, _, rfl, .inr h2, _, _, rfl, rfl, _, rfl, ?_⟩
  rw [decide_eq_true (show (1 : Int) ≤ ((nv S.1).length : Nat) by rw [nv_len]; omega)]
  refine iteT ⟨_, rfl, _, _, rfl, .inr h3, _, rfl, _, _, rfl, .inr hrs, rfl, ?_⟩
  rw [decide_eq_true (show V.int ((nv S.2).length : Nat) = V.int ((rs.map V.ref).length : Nat) by rw [nv_len, List.length_map, hlen, ok.doors])]
  exact q
theorem ok_check_state (T : Bl mg) (D : Def K mg "check_state" s_check_state) (C_need_house : Cal P w K mg base "need_house" ["house"] 5 (spRing K)) (C_has_state_shape : Cal P w K mg base "has_state_shape" ["house", "value"] 1 (spShape K))
    (C_is_index : Cal P w K mg base "is_index" ["value", "count"] 2 spIndex) : Cal P w K mg base "check_state" ["house", "value"] 6 (spSt K) := by
  refine D.ok sc_check_state (fun _ _ _ _ _ _ us hl => match us, hl with | [_, _], _ => rfl) (fun vs H Q E h => ?_) (fun f cdv A outer s H vs Q E hr h => ?_)
  · obtain ⟨a, s, ds, n, S, rfl, _⟩ := h
    rfl
  obtain ⟨a, s, ds, n, S, rfl, hH, tree, hn, st, ok, q⟩ := h
  obtain ⟨rs, hrs, hlen, hds⟩ := id hH
  obtain ⟨r, b, h1, h2, h3⟩ := id st
  have hdn := tree.len
  obtain ⟨f_need_house, fd_need_house, g_need_house, k_need_house, b_need_house, G_need_house⟩ := C_need_house
  obtain ⟨f_has_state_shape, fd_has_state_shape, g_has_state_shape, k_has_state_shape, b_has_state_shape, G_has_state_shape⟩ := C_has_state_shape
  obtain ⟨f_is_index, fd_is_index, g_is_index, k_is_index, b_is_index, G_is_index⟩ := C_is_index
  refine ⟨_, (pss_cons (ps_expr (pe_call G_need_house (hr.mono (by decide)) (by rfl) g_need_house k_need_house b_need_house .nil pass0 (pa_cons (pv 0) pa_nil)))
    (pss_cons (ps_if (pt_not (pt_val (pe_call G_has_state_shape (hr.mono (by decide)) (by rfl) g_has_state_shape k_has_state_shape b_has_state_shape .nil pass0 (pa_cons (pv 0) (pa_cons (pv 1) pa_nil))))) (pss_one (ps_ret (pe_tup (pa_cons pe_str pa_nil)))) pss_nil)
    (pss_cons (ps_asg (pv 1) (pg_tup (n := 2) rfl (pgs_cons (pg_name (i := 2) sc_check_state.nd rfl (.inl rfl)) (pgs_cons (pg_name (i := 3) sc_check_state.nd rfl (.inl rfl)) pgs_nil))))
    (pss_cons (ps_for PassesOwn.never rfl (pi_enumT (by rfl) T.enumerate (pa_cons (pv 2) pa_nil)) (pg_tup (n := 2) rfl (pgs_cons (pg_name (i := 4) sc_check_state.nd rfl (.inl rfl)) (pgs_cons (pg_name (i := 5) sc_check_state.nd rfl (.inl rfl)) pgs_nil)))
    (pss_one (ps_if (pt_not (pt_val (pe_call G_is_index (hr.mono (by decide)) (by rfl) g_is_index k_is_index b_is_index .nil pass0 (pa_cons (pv 5) (pa_cons (pe_op op_add (pe_callB call_len_seq (by rfl) T.len PySem.boot_len (pa_cons (pv 0) pa_nil)) pe_int) pa_nil))))) (pss_one (ps_ret (pe_tup (pa_cons pe_str (pa_cons (pv 4) pa_nil))))) pss_nil)))
    (pss_cons (ps_for PassesOwn.never rfl (pi_enumT (by rfl) T.enumerate (pa_cons (pv 3) pa_nil)) (pg_tup (n := 2) rfl (pgs_cons (pg_name (i := 6) sc_check_state.nd rfl (.inl rfl)) (pgs_cons (pg_name (i := 4) sc_check_state.nd rfl (.inl rfl)) pgs_nil)))
    (pss_one (ps_if (pt_not (pt_val (pe_call G_is_index (hr.mono (by decide)) (by rfl) g_is_index k_is_index b_is_index .nil pass0 (pa_cons (pv 4) (pa_cons (pe_callB call_len_seq (by rfl) T.len PySem.boot_len (pa_cons (pv 2) pa_nil)) pa_nil))))) (pss_one (ps_ret (pe_tup (pa_cons pe_str (pa_cons (pv 6) pa_nil))))) pss_nil)))
    (pss_one (ps_ret pe_non))))))), ?_⟩
  refine ⟨_, rfl, a, ds, n, rfl, hH, tree, hn, fun H1 s1 => ?_⟩
  refine ⟨_, rfl, _, rfl, a, s, ds, n, S, rfl, hH.same s1, st.same s1, ok, _, rfl, iteF ?_⟩
  refine ⟨_, rfl, _, _, rfl, s1.tup h1, rfl, _, _, rfl, _, _, rfl, rfl, ?_⟩
  refine ⟨_, rfl, r, _, rfl, s1.tup h2, ?_⟩
  refine for_it (walk_enumT (K := K) (a := r) (xs := nv S.1)) (fun k σ H2 => ∃ y4 y5 y6, σ = [some (.ref a), some (.ref s), some (.ref r), some (.ref b), y4, y5, y6] ∧ Same H H2)
    ⟨_, _, _, rfl, s1⟩ (fun i σ H2 _ ⟨_, _, _, _, sm⟩ => sm.tup h2) ?_ ?_
  · rintro k x σ H2 H3 hk ⟨y4, y5, y6, rfl, sm⟩ ⟨t, x1, x2, rfl, nt, rfl, ex1, ex2⟩
    cases ex1
    obtain ⟨v, hv, rfl⟩ := nv_some ex2
    have sm3 := sm.trans (Same.upd (o := .tup [.int (k : Nat), .int (v : Int)]) nt)
    have lv := ok.rooms v (List.mem_of_getElem? hv)
    refine ⟨t, _, rfl, SqT.of upd_same, rfl, _, _, rfl, _, _, rfl, rfl, ?_⟩
    refine ⟨_, rfl, _, rfl, _, _, rfl, .inr (sm3.tup hrs), _, _, rfl, rfl, _, _, rfl, _, rfl, ?_⟩
    rw [decide_eq_true (by rw [List.length_map, hlen]; omega)]
    exact iteF ⟨_, _, _, rfl, sm3⟩
  · rintro σ H2 ⟨y4, y5, y6, rfl, sm⟩
    refine ⟨_, rfl, b, _, rfl, sm.tup h3, ?_⟩
    refine for_it (walk_enumT (K := K) (a := b) (xs := nv S.2)) (fun k σ H2 => ∃ y4 y5 y6, σ = [some (.ref a), some (.ref s), some (.ref r), some (.ref b), y4, y5, y6] ∧ Same H H2)
      ⟨_, _, _, rfl, sm⟩ (fun i σ H2 _ ⟨_, _, _, _, sm⟩ => sm.tup h3) ?_ ?_
    · rintro k x σ H2 H3 hk ⟨y4, y5, y6, rfl, sm⟩ ⟨t, x1, x2, rfl, nt, rfl, ex1, ex2⟩
      cases ex1
      obtain ⟨v, hv, rfl⟩ := nv_some ex2
      have sm3 := sm.trans (Same.upd (o := .tup [.int (k : Nat), .int (v : Int)]) nt)
      have lv := ok.bars v (List.mem_of_getElem? hv)
      refine ⟨t, _, rfl, SqT.of upd_same, rfl, _, _, rfl, _, _, rfl, rfl, ?_⟩
      refine ⟨_, rfl, _, rfl, _, _, rfl, .inr (sm3.tup h2), _, _, rfl, _, rfl, ?_⟩
      rw [decide_eq_true (by rw [nv_len]; omega)]
      exact iteF ⟨_, _, _, rfl, sm3⟩
    · rintro σ H2 ⟨y4, y5, y6, rfl, sm⟩
      exact q H2 sm
theorem ok_need_state (T : Bl mg) (D : Def K mg "need_state" s_need_state) (C_check_state : Cal P w K mg base "check_state" ["house", "value"] 6 (spSt K)) : Cal P w K mg base "need_state" ["house", "state"] 7 (spSt K) := by
  refine D.ok sc_need_state (fun _ _ _ _ _ _ us hl => match us, hl with | [_, _], _ => rfl) (fun vs H Q E h => ?_) (fun f cdv A outer s H vs Q E hr h => ?_)
  · obtain ⟨a, s, ds, n, S, rfl, _⟩ := h
    rfl
  obtain ⟨a, s, ds, n, S, rfl, hH, tree, hn, st, ok, q⟩ := h
  obtain ⟨f_check_state, fd_check_state, g_check_state, k_check_state, b_check_state, G_check_state⟩ := C_check_state
  refine ⟨_, (pss_cons (ps_set (i := 2) sc_need_state.nd rfl (.inl rfl) (pe_call G_check_state (hr.mono (by decide)) (by rfl) g_check_state k_check_state b_check_state .nil pass0 (pa_cons (pv 0) (pa_cons (pv 1) pa_nil))))
    (pss_one (ps_if (pt_cmpR op_notN (pv 2) pe_non (nomark _)) pss_never pss_nil))), ?_⟩
  refine ⟨_, rfl, _, rfl, a, s, ds, n, S, rfl, hH, tree, hn, st, ok, fun H2 sm2 => ⟨_, rfl, rfl, _, rfl, iteF ?_⟩⟩
  exact q H2 sm2
theorem ok_doors_by_ends (T : Bl mg) (D : Def K mg "doors_by_ends" s_doors_by_ends) : Cal P w K mg base "doors_by_ends" ["house"] 1 (spDoors K) := by
  refine D.ok sc_doors_by_ends (fun _ _ _ _ _ _ us hl => match us, hl with | [_], _ => rfl) (fun vs H Q E h => ?_) (fun f cdv A outer s H vs Q E hr h => ?_)
  · obtain ⟨a, ds, n, rfl, _⟩ := h
    rfl
  obtain ⟨a, ds, n, rfl, hH, tree, hn, q⟩ := h
  obtain ⟨rs, hrs, hlen, hds⟩ := id hH
  have hdn := tree.len
  refine ⟨_, (pss_cons (ps_set (i := 1) sc_doors_by_ends.nd rfl (.inl rfl) pe_dnewT)
    (pss_cons (ps_for PassesOwn.never rfl (pi_enumT (by rfl) T.enumerate (pa_cons (pv 0) pa_nil)) (pg_tup (n := 2) rfl (pgs_cons (pg_name (i := 2) sc_doors_by_ends.nd rfl (.inl rfl)) (pgs_cons (pg_tup (n := 2) rfl (pgs_cons (pg_name (i := 3) sc_doors_by_ends.nd rfl (.inl rfl)) (pgs_cons (pg_name (i := 4) sc_doors_by_ends.nd rfl (.inl rfl)) pgs_nil))) pgs_nil)))
    (pss_cons (ps_dput (hu_of hr) (pv 1) (pe_tup (pa_cons (pv 3) (pa_cons (pv 4) pa_nil))) (pv 2) rfl)
    (pss_one (ps_dput (hu_of hr) (pv 1) (pe_tup (pa_cons (pv 4) (pa_cons (pv 3) pa_nil))) (pv 2) rfl))))
    (pss_one (ps_ret (pv 1))))), ?_⟩
  refine fun p np => ?_
  refine ⟨_, rfl, a, _, rfl, (Same.upd np).tup hrs, ?_⟩
  refine for_it (walk_enumT (K := K) (a := a) (xs := rs.map V.ref)) (fun k σ H2 => ∃ kvs y3 y4 y5, σ = [some (.ref a), some (.ref p), y3, y4, y5] ∧ Same H H2 ∧ H2 p = some (.dT kvs) ∧ DrD ds k kvs)
    ⟨[], _, _, _, rfl, Same.upd np, upd_same, ⟨fun d x y h => by omega, Nat.zero_le _⟩⟩ (fun i σ H2 _ ⟨_, _, _, _, _, sm, _⟩ => sm.tup hrs) ?_ ?_
  · rintro k x σ H1 H2 hk ⟨kvs, y3, y4, y5, rfl, sm, hp, dr⟩ ⟨t, x1, x2, rfl, nt, rfl, ex1, ex2⟩
    cases ex1
    have hk' : k < ds.length := by
      rw [List.length_map, hlen] at hk
      exact hk
    obtain ⟨e, he⟩ : ∃ e, ds[k]? = some e := get_of rfl hk'
    obtain ⟨r, hr0⟩ : ∃ r, rs[k]? = some r := get_of hlen hk'
    have ex2' : V.ref r = x2 := by
      have ex2 : (rs.map V.ref)[k]? = some x2 := ex2
      rw [List.getElem?_map, hr0] at ex2
      exact Option.some.inj ex2
    subst ex2'
    have sm2 : Same H1 (upd H1 t (.tup [.int (k : Nat), .ref r])) := Same.upd nt
    have hrd := sm2.tup (sm.tup (hds k r e hr0 he))
    have hp2 := sm2 _ _ hp
    have sm3 := sm.trans sm2
    refine ⟨t, _, rfl, SqT.of upd_same, rfl, _, _, rfl, _, _, rfl, ⟨r, _, rfl, hrd, rfl, _, _, rfl, _, _, rfl, rfl, rfl, ?_⟩⟩
    generalize upd H1 t (.tup [.int (k : Nat), .ref r]) = H3 at sm2 hp2 sm3
    have dl := dr.len
    refine ⟨_, rfl, _, rfl, _, rfl, _, rfl, by show 2 ≤ sizeLine; decide, fun t1 nt1 => ⟨p, _, rfl, .t (k := kD e.1 e.2) (by rw [upd_ne (ne_of_none hp2 nt1)]; exact hp2) upd_same (small3k (by omega)), ?_⟩⟩
    have l1 := put_len kvs (kD e.1 e.2) (.int (k : Int))
    have hp4 : (upd (upd H3 t1 (.tup [.int (e.1 : Int), .int (e.2 : Int)])) p (.dT (putK kvs (kD e.1 e.2) (.int (k : Int))))) p = some (.dT (putK kvs (kD e.1 e.2) (.int (k : Int)))) := upd_same
    have sm4 : Same H (upd (upd H3 t1 (.tup [.int (e.1 : Int), .int (e.2 : Int)])) p (.dT (putK kvs (kD e.1 e.2) (.int (k : Int))))) := (sm3.trans (Same.upd nt1)).at np
    generalize upd (upd H3 t1 (.tup [.int (e.1 : Int), .int (e.2 : Int)])) p (.dT (putK kvs (kD e.1 e.2) (.int (k : Int)))) = H5 at hp4 sm4
    refine ⟨_, rfl, _, rfl, _, rfl, _, rfl, by show 2 ≤ sizeLine; decide, fun t2 nt2 => ⟨p, _, rfl, .t (k := kD e.2 e.1) (by rw [upd_ne (ne_of_none hp4 nt2)]; exact hp4) upd_same (small3k (by omega)), ?_⟩⟩
    exact ⟨_, _, _, _, rfl, (sm4.trans (Same.upd nt2)).at np, upd_same, dr.step tree he⟩
  · rintro σ H2 ⟨kvs, y3, y4, y5, rfl, sm, hp, dr⟩
    rw [List.length_map, hlen] at dr
    exact ⟨_, rfl, q H2 p kvs sm np hp dr⟩
end
end K5

namespace K5
open PySem PySem.Spec PyProof.Rows L2
/-- a plan: a list of moves, None behind them where it is bad -/
def PlanAt (H : Hp) (pl : Addr) (l : List Mv) (bad : Bool) : Prop := ∃ ts : List Addr, H pl = some (.lst (ts.map V.ref ++ if bad = true then [.non] else [])) ∧ TL H ts l
theorem PlanAt.same {H H' : Hp} {pl l bad} (h : PlanAt H pl l bad) (s : Same H H') : PlanAt H' pl l bad := by
  obtain ⟨ts, h1, h2⟩ := h
  exact ⟨ts, s _ _ h1, h2.same s⟩
/-- the heap behind a raise: the error's dict is new, the error itself flies -/
theorem _root_.L2.Same.err {H G : Hp} {b d : Addr} {y : HO} (nb : H b = none) (nd : H d = none) (h : ∀ c, c ≠ b → c ≠ d → G c = H c) : Same H (upd (del G b) d y) := fun c o e => by
  have h1 := ne_of_none e nb
  have h2 := ne_of_none e nd
  rw [upd_ne h2, del_ne h1, h c h1 h2]
  exact e
/-- a def that may raise; an error's class and its maker -/
def CalX (P : Program) (w : World) (K : PySem.W.Frag) (mg : Str → Option Value) (base : Heap) (x : Str) (ps : List Str) (k : Nat) (sp : Sp) : Prop :=
  ∃ (f : Addr) (fd : FuncData), mg x = some (.ref f) ∧ PySem.W.keepIn K (.ref f) = true ∧ Binds K fd ps [] ∧ FnOk P w K mg base (L2.CX P w) k f fd ps sp
theorem _root_.L2.Def.okX {P : Program} {w : World} {K : PySem.W.Frag} {mg : Str → Option Value} {base : Heap} {x : Str} {st : Stmt} {N ps : List Str} {k : Nat} {sp : Sp} (D : Def K mg x st) (S : FnScope N ps (defScope st))
    (hb : ∀ (kV doc pm : Value) (an : Option Addr) (cdv ct : Value) (us : List Value), us.length = ps.length → bindArgs (PySem.W.fnOf x x (defArgs st) (defBody st) (defScope st) .none kV doc pm an cdv ct) ⟨us, []⟩ = pure (ps.zip us))
    (ar : ∀ vs H Q E, sp vs H Q E → vs.length = ps.length)
    (hbody : ∀ (f : Addr) (cdv : Value) (A : Around) (outer : List Env) (s : Shared) (H : Hp) (vs : List V) (Q : VK) (E : XK), Room k (A.deeper (envOfC x (defScope st) s.heap.objs.size f cdv)) → sp vs H Q E →
      ∃ t, PSs (cxOf (L2.CX P w) P w K mg base N x (defScope st) f cdv A outer s H E) (defBody st) t ∧ t { nx := fun _ H' => Q .non H', rt := Q } (start N vs) H) : CalX P w K mg base x ps (k + 1) sp := by
  obtain ⟨f, fd, F, m⟩ := D
  exact ⟨f, fd, m, F.kp, F.binds hb, F.okX S ar fun cdv A outer s H vs Q E hr h => hbody f cdv A outer s H vs Q E hr h⟩
def ErrOk (P : Program) (w : World) (K : PySem.W.Frag) (mg : Str → Option Value) (base : Heap) (x : Str) (C : Addr) (ps : List Str) (sp : Sp) : Prop :=
  ∃ (fI : Addr) (fd : FuncData), ErrC K mg x C fI ∧ FnOk P w K mg base CX0 1 fI fd ps sp ∧ Binds K fd ps []
def spMove : Sp := fun vs H Q _ => ∃ (p : Addr) (P : Nat) (x : V) (ds : List (Nat × Nat)) (kvs : List (List Key × V)), vs = [.ref p, .int (P : Int), x] ∧ H p = some (.dT kvs) ∧ DrD ds ds.length kvs ∧
  ((x = .non ∧ Q (.bl false) H) ∨ ∃ (t : Addr) (m : Mv), x = .ref t ∧ H t = some (.tup (tI m)) ∧ VM ds P m ∧ ∀ H', Same H H' → Q (.bl true) H')
def spPeople : Sp := fun vs H Q _ => ∃ P : Nat, vs = [.int (P : Int)] ∧ 1 ≤ P ∧ Q .non H
def spPlan (K : PySem.W.Frag) : Sp := fun vs H Q _ => ∃ (a pl : Addr) (P n : Nat) (ds : List (Nat × Nat)) (l : List Mv) (bad : Bool), vs = [.ref a, .int (P : Int), .ref pl] ∧ HouseAt K H a ds ∧ Tree n ds ∧ n ≤ 1000 ∧ 1 ≤ P ∧ PlanAt H pl l bad ∧ (∀ m ∈ l, VM ds P m) ∧
  (bad = false → ∀ H', Same H H' → Q .non H') ∧ (bad = true → ∀ (H' : Hp) (t : Addr), Same H H' → H' t = some (.tup [.str "move", .int (l.length : Int)]) → Q (.ref t) H')
def spNeedPlan (K : PySem.W.Frag) (CI : Addr) : Sp := fun vs H Q E => ∃ (a pl : Addr) (P n : Nat) (ds : List (Nat × Nat)) (l : List Mv) (bad : Bool), vs = [.ref a, .int (P : Int), .ref pl] ∧ HouseAt K H a ds ∧ Tree n ds ∧ n ≤ 1000 ∧ 1 ≤ P ∧ PlanAt H pl l bad ∧ (∀ m ∈ l, VM ds P m) ∧
  (bad = false → ∀ H', Same H H' → Q .non H') ∧ (bad = true → ∀ (H' : Hp) (t d : Addr), Same H H' → H' t = some (.tup [.str "move", .int (l.length : Int)]) → H' d = some (.xd [("reason", .ref t)]) → E (.ref CI) (some d) H')
section
variable {P : Program} {w : World} {K : PySem.W.Frag}
      {mg : Str → Option Value} {base : Heap}
theorem ok_need_people (T : Bl mg) (D : Def K mg "need_people" s_need_people) (C_is_whole : Cal P w K mg base "is_whole" ["value"] 1 spWhole) : Cal P w K mg base "need_people" ["people"] 2 spPeople := by
  refine D.ok sc_need_people (fun _ _ _ _ _ _ us hl => match us, hl with | [_], _ => rfl) (fun vs H Q E h => ?_) (fun f cdv A outer s H vs Q E hr h => ?_)
  · obtain ⟨p, rfl, _⟩ := h
    rfl
  obtain ⟨p, rfl, hp, q⟩ := h
  obtain ⟨f_is_whole, fd_is_whole, g_is_whole, k_is_whole, b_is_whole, G_is_whole⟩ := C_is_whole
  refine ⟨_, (pss_one (ps_if (PW.pt (pw_or (pt_not (pt_val (pe_call G_is_whole (hr.mono (by decide)) (by rfl) g_is_whole k_is_whole b_is_whole .nil pass0 (pa_cons (pv 0) pa_nil)))) (pw_or1 (pt_cmpR op_lt (pv 0) pe_int (nomark _))))) pss_never pss_nil)), ?_⟩
  refine ⟨_, rfl, _, rfl, _, rfl, iteF ?_⟩
  refine ⟨_, rfl, _, _, rfl, rfl, _, rfl, ?_⟩
  rw [decide_eq_false (show ¬ (p : Int) < 1 by omega)]
  exact iteF q
theorem ok_is_move (T : Bl mg) (D : Def K mg "is_move" s_is_move) (C_is_whole : Cal P w K mg base "is_whole" ["value"] 1 spWhole) (C_is_index : Cal P w K mg base "is_index" ["value", "count"] 2 spIndex) : Cal P w K mg base "is_move" ["doors", "people", "value"] 3 spMove := by
  refine D.ok sc_is_move (fun _ _ _ _ _ _ us hl => match us, hl with | [_, _, _], _ => rfl) (fun vs H Q E h => ?_) (fun f cdv A outer s H vs Q E hr h => ?_)
  · obtain ⟨p, n, x, ds, kvs, rfl, _⟩ := h
    rfl
  obtain ⟨p, n, x, ds, kvs, rfl, hp, dr, h⟩ := h
  obtain ⟨f_is_whole, fd_is_whole, g_is_whole, k_is_whole, b_is_whole, G_is_whole⟩ := C_is_whole
  obtain ⟨f_is_index, fd_is_index, g_is_index, k_is_index, b_is_index, G_is_index⟩ := C_is_index
  refine ⟨_, (pss_cons (ps_if (PW.pt (pw_or (pt_not (pt_val (pe_callB call_isi (by rfl) T.isinstance (by decide +kernel) (pa_cons (pv 2) (pa_cons (pe_bltn (v := .ty "tuple") (u := .type "tuple") (by rfl) T.tuple (by decide +kernel) rfl) pa_nil))))) (pw_or1 (pt_cmpR op_ne (pe_callB call_len_seq (by rfl) T.len PySem.boot_len (pa_cons (pv 2) pa_nil)) pe_int (nomark _))))) (pss_one (ps_ret pe_bl)) pss_nil)
    (pss_cons (ps_asg (pv 2) (pg_tup (n := 3) rfl (pgs_cons (pg_name (i := 3) sc_is_move.nd rfl (.inl rfl)) (pgs_cons (pg_name (i := 4) sc_is_move.nd rfl (.inl rfl)) (pgs_cons (pg_name (i := 5) sc_is_move.nd rfl (.inl rfl)) pgs_nil)))))
    (pss_cons (ps_if (PW.pt (pw_or (pt_not (pt_val (pe_call G_is_index (hr.mono (by decide)) (by rfl) g_is_index k_is_index b_is_index .nil pass0 (pa_cons (pv 3) (pa_cons (pv 1) pa_nil))))) (pw_or (pt_not (pt_val (pe_call G_is_whole (hr.mono (by decide)) (by rfl) g_is_whole k_is_whole b_is_whole .nil pass0 (pa_cons (pv 4) pa_nil)))) (pw_or1 (pt_not (pt_val (pe_call G_is_whole (hr.mono (by decide)) (by rfl) g_is_whole k_is_whole b_is_whole .nil pass0 (pa_cons (pv 5) pa_nil)))))))) (pss_one (ps_ret pe_bl)) pss_nil)
    (pss_one (ps_ret (pe_cmp (pc_din (hu_of hr) (pe_tup (pa_cons (pv 4) (pa_cons (pv 5) pa_nil))) (pv 0)))))))), ?_⟩
  rcases h with ⟨rfl, q⟩ | ⟨t, m, rfl, ht, ⟨v1, d, j⟩, q⟩
  · refine ⟨_, rfl, _, _, _, _, _, rfl, .ty _, .base .non, kit_ty (r := false) (by decide +kernel), _, rfl, iteT ?_⟩
    exact iteT q
  · refine ⟨_, rfl, _, _, _, _, _, rfl, .ty _, ty_tup (K := K) (SqT.of ht), kit_ty (r := true) (by decide +kernel), _, rfl, iteF ?_⟩
    refine ⟨_, rfl, _, _, rfl, .inr (SqT.of ht), rfl, _, rfl, iteF ?_⟩
    refine ⟨_, rfl, _, _, rfl, SqT.of ht, rfl, _, _, rfl, _, _, rfl, _, _, rfl, rfl, ?_⟩
    refine ⟨_, rfl, _, rfl, _, _, rfl, _, rfl, ?_⟩
    rw [decide_eq_true (show (0 : Int) ≤ (m.1 : Int) ∧ (m.1 : Int) < (n : Int) by omega)]
    refine iteF ⟨_, rfl, _, rfl, _, rfl, iteF ⟨_, rfl, _, rfl, _, rfl, iteF ?_⟩⟩
    refine ⟨_, rfl, _, rfl, by show 2 ≤ sizeLine; decide, fun t1 nt1 => ?_⟩
    refine ⟨_, rfl, p, _, rfl, .t (k := kD m.2.1 m.2.2) (by rw [upd_ne (ne_of_none hp nt1)]; exact hp) upd_same, ?_⟩
    rw [dr.at_ d m.2.1 m.2.2 (joins_lt j) j]
    exact q _ (Same.upd nt1)
theorem ok_check_plan (T : Bl mg) (D : Def K mg "check_plan" s_check_plan) (C_need_house : Cal P w K mg base "need_house" ["house"] 5 (spRing K)) (C_need_people : Cal P w K mg base "need_people" ["people"] 2 spPeople)
    (C_doors_by_ends : Cal P w K mg base "doors_by_ends" ["house"] 1 (spDoors K)) (C_is_move : Cal P w K mg base "is_move" ["doors", "people", "value"] 3 spMove) : Cal P w K mg base "check_plan" ["house", "people", "value"] 6 (spPlan K) := by
  refine D.ok sc_check_plan (fun _ _ _ _ _ _ us hl => match us, hl with | [_, _, _], _ => rfl) (fun vs H Q E h => ?_) (fun f cdv A outer s H vs Q E hr h => ?_)
  · obtain ⟨a, pl, p, n, ds, l, bad, rfl, _⟩ := h
    rfl
  obtain ⟨a, pl, p, n, ds, l, bad, rfl, hH, tree, hn, hp, ⟨ts, hpl, tl⟩, vm, q0, q1⟩ := h
  obtain ⟨f_need_house, fd_need_house, g_need_house, k_need_house, b_need_house, G_need_house⟩ := C_need_house
  obtain ⟨f_need_people, fd_need_people, g_need_people, k_need_people, b_need_people, G_need_people⟩ := C_need_people
  obtain ⟨f_doors_by_ends, fd_doors_by_ends, g_doors_by_ends, k_doors_by_ends, b_doors_by_ends, G_doors_by_ends⟩ := C_doors_by_ends
  obtain ⟨f_is_move, fd_is_move, g_is_move, k_is_move, b_is_move, G_is_move⟩ := C_is_move
  refine ⟨_, (pss_cons (ps_expr (pe_call G_need_house (hr.mono (by decide)) (by rfl) g_need_house k_need_house b_need_house .nil pass0 (pa_cons (pv 0) pa_nil)))
    (pss_cons (ps_expr (pe_call G_need_people (hr.mono (by decide)) (by rfl) g_need_people k_need_people b_need_people .nil pass0 (pa_cons (pv 1) pa_nil)))
    (pss_cons (ps_if (pt_not (pt_val (pe_callB call_isi (by rfl) T.isinstance (by decide +kernel) (pa_cons (pv 2) (pa_cons (pe_bltn (v := .ty "list") (u := .type "list") (by rfl) T.list (by decide +kernel) rfl) pa_nil))))) (pss_one (ps_ret (pe_tup (pa_cons pe_str pa_nil)))) pss_nil)
    (pss_cons (ps_set (i := 3) sc_check_plan.nd rfl (.inl rfl) (pe_call G_doors_by_ends (hr.mono (by decide)) (by rfl) g_doors_by_ends k_doors_by_ends b_doors_by_ends .nil pass0 (pa_cons (pv 0) pa_nil)))
    (pss_cons (ps_for PassesOwn.never rfl (pi_enum (by rfl) T.enumerate (pa_cons (pv 2) pa_nil)) (pg_tup (n := 2) rfl (pgs_cons (pg_name (i := 4) sc_check_plan.nd rfl (.inl rfl)) (pgs_cons (pg_name (i := 5) sc_check_plan.nd rfl (.inl rfl)) pgs_nil)))
    (pss_one (ps_if (pt_not (pt_val (pe_call G_is_move (hr.mono (by decide)) (by rfl) g_is_move k_is_move b_is_move .nil pass0 (pa_cons (pv 3) (pa_cons (pv 1) (pa_cons (pv 5) pa_nil)))))) (pss_one (ps_ret (pe_tup (pa_cons pe_str (pa_cons (pv 4) pa_nil))))) pss_nil)))
    (pss_one (ps_ret pe_non))))))), ?_⟩
  refine ⟨_, rfl, a, ds, n, rfl, hH, tree, hn, fun H1 s1 => ?_⟩
  refine ⟨_, rfl, p, rfl, hp, ?_⟩
  refine ⟨_, rfl, _, _, _, _, _, rfl, .ty _, .base (.lst (s1 _ _ hpl)), kit_ty (r := true) (by decide +kernel), _, rfl, iteF ?_⟩
  refine ⟨_, rfl, a, ds, n, rfl, hH.same s1, tree, hn, fun H2 pd kvs s2 npd hpd dr => ?_⟩
  have s12 := s1.trans s2
  have hpl2 := s12 _ _ hpl
  refine ⟨_, rfl, pl, _, rfl, SqL.of hpl2, ?_⟩
  refine for_it (walk_enum (K := K) (a := pl) (xs := ts.map V.ref ++ if bad = true then [.non] else [])) (fun k σ H3 => ∃ y4 y5, σ = [some (.ref a), some (.int (p : Int)), some (.ref pl), some (.ref pd), y4, y5] ∧ Same H2 H3 ∧ k ≤ l.length)
    ⟨_, _, rfl, Same.refl _, Nat.zero_le _⟩ (fun i σ H3 _ ⟨_, _, _, sm, _⟩ => SqL.of (sm _ _ hpl2)) ?_ ?_
  · rintro k x σ H3 H4 hk ⟨y4, y5, rfl, sm, hkl⟩ ⟨t, x1, x2, rfl, nt, rfl, ex1, ex2⟩
    cases ex1
    have sm4 := sm.trans (Same.upd (o := .tup [.int (k : Nat), x2]) nt)
    refine ⟨t, _, rfl, SqT.of upd_same, rfl, _, _, rfl, _, _, rfl, rfl, ?_⟩
    generalize upd H3 t (.tup [.int (k : Nat), x2]) = H5 at sm4
    by_cases hkk : k < l.length
    · obtain ⟨t1, ht1⟩ : ∃ t1, ts[k]? = some t1 := get_of tl.1 hkk
      obtain ⟨m, hm⟩ : ∃ m, l[k]? = some m := get_of rfl hkk
      have e : x2 = V.ref t1 := by
        have ex2 : (ts.map V.ref ++ if bad = true then [.non] else [])[k]? = some x2 := ex2
        rw [List.getElem?_append_left (by rw [List.length_map, tl.1]; exact hkk), List.getElem?_map, ht1] at ex2
        exact (Option.some.inj ex2).symm
      subst e
      refine ⟨_, rfl, _, rfl, _, rfl, pd, p, _, ds, kvs, rfl, sm4 _ _ hpd, dr, .inr ⟨t1, m, rfl, sm4 _ _ (s12 _ _ (tl.2 k t1 m ht1 hm)), vm m (List.mem_of_getElem? hm), fun H6 s6 => ?_⟩⟩
      exact ⟨_, rfl, iteF ⟨_, _, rfl, sm4.trans s6, hkk⟩⟩
    · have e : k = l.length := by omega
      subst e
      have eb : bad = true ∧ x2 = .non := by
        have ex2 : (ts.map V.ref ++ if bad = true then [.non] else [])[l.length]? = some x2 := ex2
        rw [List.getElem?_append_right (by rw [List.length_map, tl.1]; exact Nat.le_refl _), List.length_map, tl.1, Nat.sub_self] at ex2
        cases bad with
        | false => simp at ex2
        | true => exact ⟨rfl, (by simpa using ex2.symm)⟩
      obtain ⟨rfl, rfl⟩ := eb
      refine ⟨_, rfl, _, rfl, _, rfl, pd, p, _, ds, kvs, rfl, sm4 _ _ hpd, dr, .inl ⟨rfl, _, rfl, iteT ?_⟩⟩
      refine ⟨_, rfl, by show 2 ≤ sizeLine; decide, fun t2 nt2 => ?_⟩
      exact q1 rfl _ t2 ((s12.trans sm4).trans (Same.upd nt2)) upd_same
  · rintro σ H3 ⟨y4, y5, rfl, sm, hkl⟩
    have eb : bad = false := by
      cases bad with
      | false => rfl
      | true =>
        rw [List.length_append, List.length_map, tl.1] at hkl
        simp at hkl
        omega
    exact q0 eb H3 (s12.trans sm)
theorem ok_need_plan {CI : Addr} (T : Bl mg) (EI : ErrOk P w K mg base "InvalidPlan" CI ["self", "reason"] (spIp CI)) (D : Def K mg "need_plan" s_need_plan) (C_check_plan : Cal P w K mg base "check_plan" ["house", "people", "value"] 6 (spPlan K)) : CalX P w K mg base "need_plan" ["house", "people", "plan"] 7 (spNeedPlan K CI) := by
  obtain ⟨f_ip, fd_ip, e_ip, F_ip, B_ip⟩ := EI
  refine D.okX sc_need_plan (fun _ _ _ _ _ _ us hl => match us, hl with | [_, _, _], _ => rfl) (fun vs H Q E h => ?_) (fun f cdv A outer s H vs Q E hr h => ?_)
  · obtain ⟨a, pl, p, n, ds, l, bad, rfl, _⟩ := h
    rfl
  obtain ⟨a, pl, p, n, ds, l, bad, rfl, hH, tree, hn, hp, hpl, vm, q0, q1⟩ := h
  obtain ⟨f_check_plan, fd_check_plan, g_check_plan, k_check_plan, b_check_plan, G_check_plan⟩ := C_check_plan
  refine ⟨_, (pss_cons (ps_set (i := 3) sc_need_plan.nd rfl (.inl rfl) (pe_call G_check_plan (hr.mono (by decide)) (by rfl) g_check_plan k_check_plan b_check_plan .nil pass0 (pa_cons (pv 0) (pa_cons (pv 1) (pa_cons (pv 2) pa_nil)))))
    (pss_one (ps_if (pt_cmpR op_notN (pv 3) pe_non (nomark _)) (pss_one (ps_raise rfl (takes_of rfl rfl rfl rfl) (by exact (pmk_oex e_ip.o e_ip.i e_ip.t F_ip (hr.mono (by decide)) B_ip .nil pass0 (by rfl) e_ip.g (pa_cons (pv 3) pa_nil))))) pss_nil))), ?_⟩
  refine ⟨_, rfl, _, rfl, _, rfl, a, pl, p, n, ds, l, bad, rfl, hH, tree, hn, hp, hpl, vm, fun eb H2 sm2 => ?_, fun eb H2 t sm2 ht => ?_⟩
  · exact ⟨_, rfl, rfl, _, rfl, iteF (q0 eb H2 sm2)⟩
  · refine ⟨_, rfl, rfl, _, rfl, iteT ?_⟩
    refine ⟨_, rfl, by show 1 ≤ 1000; decide, fun b nb => ⟨b, _, rfl, upd_same, fun d nd ne => ?_⟩⟩
    rw [upd_ne ne] at nd
    have e1 : (upd (upd (upd H2 b (exo b CI none)) d (exd d [("reason", .ref t)])) b (exo b CI (some d))) d = some (exd d [("reason", .ref t)]) := by rw [upd_ne ne, upd_same]
    have sm3 := Same.err (G := upd (upd (upd H2 b (exo b CI none)) d (exd d [("reason", .ref t)])) b (exo b CI (some d))) (y := .xd [("reason", .ref t)]) nb nd fun c h1 h2 => by rw [upd_ne h1, upd_ne h2, upd_ne h1]
    exact ⟨rfl, d, _, upd_same, e1, nd, q1 eb _ t d (sm2.trans sm3) (sm3 _ _ ht) upd_same⟩
end
end K5

namespace K5
open PySem PySem.Spec PyProof.Rows L2
/-- the moves found ahead of person j at door k -/
structure PM (ds : List (Nat × Nat)) (S : S2) (k j : Nat) (l : List Mv) : Prop where
  mem : ∀ m, m ∈ l ↔ ∃ d, (d < k ∨ (d = k ∧ m.1 < j)) ∧ Joins ds d m.2.1 m.2.2 ∧ S.1[m.1]? = some m.2.1 ∧ S.2[d]? ≠ some m.1
  nd : l.Nodup
  len : l.length ≤ 4 * k + j
theorem PM.nil {ds S} : PM ds S 0 0 [] := ⟨fun m => ⟨fun h => (List.not_mem_nil h).elim, fun h => by
  obtain ⟨d, h, _⟩ := h
  omega⟩, List.nodup_nil, Nat.zero_le _⟩
theorem PM.add {n ds S k j l x y} (T : Tree n ds) (h : PM ds S k j l) (jo : Joins ds k x y) (hv : S.1[j]? = some x) (hb : S.2[k]? ≠ some j) : PM ds S k (j + 1) (l ++ [(j, x, y)]) := by
  refine ⟨fun m => ?_, ?_, by rw [List.length_append, List.length_singleton]; have := h.len; omega⟩
  · rw [List.mem_append, List.mem_singleton, h.mem m]
    constructor
    · rintro (⟨d, q, r⟩ | rfl)
      · exact ⟨d, by omega, r⟩
      · exact ⟨k, .inr ⟨rfl, Nat.lt_succ_self _⟩, jo, hv, hb⟩
    · rintro ⟨d, q, r1, r2, r3⟩
      by_cases c : d = k ∧ m.1 = j
      · obtain ⟨rfl, e⟩ := c
        obtain ⟨p, s, z⟩ := m
        simp only at e r1 r2 r3
        subst e
        rw [hv] at r2
        cases r2
        have ne := (jo.lt T).2.2.2
        rw [← jo.other r1 ne]
        exact .inr rfl
      · exact .inl ⟨d, by omega, r1, r2, r3⟩
  · refine List.nodup_append.mpr ⟨h.nd, by simp, fun a ha b hb' => ?_⟩
    rintro rfl
    rw [List.mem_singleton] at hb'
    subst hb'
    obtain ⟨d, q, r, _⟩ := (h.mem _).mp ha
    have := T.one_door r jo
    simp only at q
    omega
theorem PM.skip {ds S k j l} (h : PM ds S k j l) (hv : ∀ x y, Joins ds k x y → S.1[j]? = some x → S.2[k]? = some j) : PM ds S k (j + 1) l := by
  refine ⟨fun m => ?_, h.nd, by have := h.len; omega⟩
  rw [h.mem m]
  constructor
  · rintro ⟨d, q, r⟩
    exact ⟨d, by omega, r⟩
  · rintro ⟨d, q, r1, r2, r3⟩
    by_cases c : d = k ∧ m.1 = j
    · obtain ⟨rfl, rfl⟩ := c
      exact absurd (hv _ _ r1 r2) r3
    · exact ⟨d, by omega, r1, r2, r3⟩
theorem PM.next {ds S k l} (h : PM ds S k S.1.length l) (few : S.1.length ≤ 4) : PM ds S (k + 1) 0 l := by
  refine ⟨fun m => ?_, h.nd, by have := h.len; omega⟩
  rw [h.mem m]
  constructor
  · rintro ⟨d, q, r⟩
    exact ⟨d, .inl (by omega), r⟩
  · rintro ⟨d, q, r1, r2, r3⟩
    have := get_lt r2
    exact ⟨d, by omega, r1, r2, r3⟩
theorem PM.done {ds S l} (h : PM ds S ds.length 0 l) (m : Mv) : m ∈ l ↔ Can ds S m := by
  rw [h.mem m]
  constructor
  · rintro ⟨d, q, r1, r2, r3⟩
    exact ⟨get_lt r2, r2, d, r1, r3⟩
  · rintro ⟨h1, h2, d, r1, r3⟩
    exact ⟨d, .inl (joins_lt r1), r1, h2, r3⟩
theorem Can.sm {n ds S m} (T : Tree n ds) (hn : n ≤ 15) (o : StOk n ds S) (h : Can ds S m) : Sm m := by
  obtain ⟨h1, h2, d, j, h3⟩ := h
  obtain ⟨a, b, _⟩ := j.lt T
  have := o.few
  exact ⟨by omega, by omega, by omega⟩
def spPoss (K : PySem.W.Frag) : Sp := fun vs H Q _ => ∃ (a s : Addr) (ds : List (Nat × Nat)) (n : Nat) (S : S2), vs = [.ref a, .ref s] ∧ HouseAt K H a ds ∧ Tree n ds ∧ n ≤ 15 ∧ StateAt K H s S ∧ StOk n ds S ∧
  ∀ (H' : Hp) (q : Addr) (l : List Mv), Same H H' → H q = none → TrisAt H' q l → Canon l (Can ds S) → Q (.ref q) H'
section
variable {P : Program} {w : World} {K : PySem.W.Frag}
      {mg : Str → Option Value} {base : Heap}
theorem ok_possible_moves (T : Bl mg) (D : Def K mg "possible_moves" s_possible_moves) (C_need_state : Cal P w K mg base "need_state" ["house", "state"] 7 (spSt K)) : Cal P w K mg base "possible_moves" ["house", "state"] 8 (spPoss K) := by
  refine D.ok sc_possible_moves (fun _ _ _ _ _ _ us hl => match us, hl with | [_, _], _ => rfl) (fun vs H Q E h => ?_) (fun f cdv A outer s H vs Q E hr h => ?_)
  · obtain ⟨a, s, ds, n, S, rfl, _⟩ := h
    rfl
  obtain ⟨a, s, ds, n, S, rfl, hH, tree, hn, st, ok, q⟩ := h
  obtain ⟨rs, hrs, hlen, hds⟩ := id hH
  obtain ⟨r, b, h1, h2, h3⟩ := id st
  have hdn := tree.len
  have few := ok.few
  obtain ⟨f_need_state, fd_need_state, g_need_state, k_need_state, b_need_state, G_need_state⟩ := C_need_state
  refine ⟨_, (pss_cons (ps_expr (pe_call G_need_state (hr.mono (by decide)) (by rfl) g_need_state k_need_state b_need_state .nil pass0 (pa_cons (pv 0) (pa_cons (pv 1) pa_nil))))
    (pss_cons (ps_asg (pv 1) (pg_tup (n := 2) rfl (pgs_cons (pg_name (i := 2) sc_possible_moves.nd rfl (.inl rfl)) (pgs_cons (pg_name (i := 3) sc_possible_moves.nd rfl (.inl rfl)) pgs_nil))))
    (pss_cons (ps_set (i := 4) sc_possible_moves.nd rfl (.inl rfl) (pe_lst pa_nil))
    (pss_cons (ps_for PassesOwn.never rfl (pi_enumT (by rfl) T.enumerate (pa_cons (pv 0) pa_nil)) (pg_tup (n := 2) rfl (pgs_cons (pg_name (i := 5) sc_possible_moves.nd rfl (.inl rfl)) (pgs_cons (pg_tup (n := 2) rfl (pgs_cons (pg_name (i := 6) sc_possible_moves.nd rfl (.inl rfl)) (pgs_cons (pg_name (i := 7) sc_possible_moves.nd rfl (.inl rfl)) pgs_nil))) pgs_nil)))
    (pss_one (ps_for PassesOwn.never rfl (pi_enumT (by rfl) T.enumerate (pa_cons (pv 2) pa_nil)) (pg_tup (n := 2) rfl (pgs_cons (pg_name (i := 8) sc_possible_moves.nd rfl (.inl rfl)) (pgs_cons (pg_name (i := 9) sc_possible_moves.nd rfl (.inl rfl)) pgs_nil)))
    (pss_cons (ps_if (PW.pt (pw_and (pt_cmpR op_eq (pv 9) (pv 6) (nomark _)) (pw_and1 (pt_cmpR op_ne (pe_ix ix_tup (pv 3) (pv 5) (fun _ _ => rfl)) (pv 8) (nomark _))))) (pss_one (ps_expr (pe_bm PySem.F.plainAttrs_list PySem.F.slot_list_append PySem.F.type_list_append mt_append (pv 4) (pa_cons (pe_tup (pa_cons (pv 8) (pa_cons (pv 6) (pa_cons (pv 7) pa_nil)))) pa_nil)))) pss_nil)
    (pss_one (ps_if (PW.pt (pw_and (pt_cmpR op_eq (pv 9) (pv 7) (nomark _)) (pw_and1 (pt_cmpR op_ne (pe_ix ix_tup (pv 3) (pv 5) (fun _ _ => rfl)) (pv 8) (nomark _))))) (pss_one (ps_expr (pe_bm PySem.F.plainAttrs_list PySem.F.slot_list_append PySem.F.type_list_append mt_append (pv 4) (pa_cons (pe_tup (pa_cons (pv 8) (pa_cons (pv 7) (pa_cons (pv 6) pa_nil)))) pa_nil)))) pss_nil))))))
    (pss_one (ps_ret (pe_callB (cr_sortT (d := 3) (B := 64) (by decide)) (by rfl) T.sorted (by decide +kernel) (pa_cons (pv 4) pa_nil)))))))), ?_⟩
  refine ⟨_, rfl, _, rfl, a, s, ds, n, S, rfl, hH, tree, by omega, st, ok, fun H1 s1 => ?_⟩
  refine ⟨_, rfl, _, _, rfl, s1.tup h1, rfl, _, _, rfl, _, _, rfl, rfl, ?_⟩
  refine ⟨Nat.zero_le _, fun p np => ?_⟩
  have sp1 : Same H (upd H1 p (.lst [])) := s1.trans (Same.upd np)
  have np0 := s1.free np
  refine ⟨_, rfl, a, _, rfl, sp1.tup hrs, ?_⟩
  refine for_it (walk_enumT (K := K) (a := a) (xs := rs.map V.ref)) (fun k σ H2 => ∃ l y5 y6 y7 y8 y9, σ = [some (.ref a), some (.ref s), some (.ref r), some (.ref b), some (.ref p), y5, y6, y7, y8, y9] ∧ Same H H2 ∧ TrisAt H2 p l ∧ PM ds S k 0 l)
    ⟨[], _, _, _, _, _, rfl, sp1, ⟨[], upd_same, TL.nil⟩, PM.nil⟩ (fun i σ H2 _ ⟨_, _, _, _, _, _, _, sm, _⟩ => sm.tup hrs) ?_ ?_
  · rintro k x σ H2 H3 hk ⟨l, y5, y6, y7, y8, y9, rfl, sm, tr, pm⟩ ⟨t, x1, x2, rfl, nt, rfl, ex1, ex2⟩
    cases ex1
    have hk' : k < ds.length := by
      rw [List.length_map, hlen] at hk
      exact hk
    obtain ⟨e, he⟩ : ∃ e, ds[k]? = some e := get_of rfl hk'
    obtain ⟨r0, hr0⟩ : ∃ r, rs[k]? = some r := get_of hlen hk'
    obtain ⟨bk, hbk⟩ : ∃ bk, S.2[k]? = some bk := get_of ok.doors hk'
    have ex2' : V.ref r0 = x2 := by
      have ex2 : (rs.map V.ref)[k]? = some x2 := ex2
      rw [List.getElem?_map, hr0] at ex2
      exact Option.some.inj ex2
    subst ex2'
    obtain ⟨side, sd1, sd2⟩ := tree.side
    have ene : e.1 ≠ e.2 := fun z => sd1 k e he (by rw [z])
    have sm2 : Same H2 (upd H2 t (.tup [.int (k : Nat), .ref r0])) := Same.upd nt
    have hrd := sm2.tup (sm.tup (hds k r0 e hr0 he))
    have tr2 := tr.same sm2
    have sm3 := sm.trans sm2
    refine ⟨t, _, rfl, SqT.of upd_same, rfl, _, _, rfl, _, _, rfl, ⟨r0, _, rfl, hrd, rfl, _, _, rfl, _, _, rfl, rfl, rfl, ?_⟩⟩
    generalize upd H2 t (.tup [.int (k : Nat), .ref r0]) = H4 at sm2 hrd tr2 sm3
    refine ⟨_, rfl, r, _, rfl, sm3.tup h2, ?_⟩
    refine for_it (walk_enumT (K := K) (a := r) (xs := nv S.1)) (fun j σ H5 => ∃ l y8 y9, σ = [some (.ref a), some (.ref s), some (.ref r), some (.ref b), some (.ref p), some (.int (k : Int)), some (.int (e.1 : Int)), some (.int (e.2 : Int)), y8, y9] ∧ Same H H5 ∧ TrisAt H5 p l ∧ PM ds S k j l)
      ⟨l, _, _, rfl, sm3, tr2, pm⟩ (fun i σ H2 _ ⟨_, _, _, _, sm, _⟩ => sm.tup h2) ?_ ?_
    · rintro j x σ H5 H6 hj ⟨l, y8, y9, rfl, sm, tr, pm⟩ ⟨t, x1, x2, rfl, nt, rfl, ex1, ex2⟩
      cases ex1
      obtain ⟨v, hv, rfl⟩ := nv_some ex2
      have jP := get_lt hv
      have smt : Same H5 (upd H5 t (.tup [.int (j : Nat), .int (v : Int)])) := Same.upd nt
      have sm6 := sm.trans smt
      have tr6 := tr.same smt
      refine ⟨t, _, rfl, SqT.of upd_same, rfl, _, _, rfl, _, _, rfl, rfl, ?_⟩
      generalize upd H5 t (.tup [.int (j : Nat), .int (v : Int)]) = H7 at smt sm6 tr6
      obtain ⟨ts, g1, g2⟩ := tr6
      have ll := pm.len
      have add : ∀ (x y : Nat) (t2 : Addr), v = x → Joins ds k x y → bk ≠ j → H7 t2 = none → (ts.map V.ref).length < sizeLine ∧ TrisAt (upd (upd H7 t2 (.tup [.int (j : Int), .int (x : Int), .int (y : Int)])) p (.lst (ts.map V.ref ++ [.ref t2]))) p (l ++ [(j, x, y)]) ∧
          Same H (upd (upd H7 t2 (.tup [.int (j : Int), .int (x : Int), .int (y : Int)])) p (.lst (ts.map V.ref ++ [.ref t2]))) ∧ PM ds S k (j + 1) (l ++ [(j, x, y)]) := by
        rintro x y t2 rfl jo nb nt2
        have ntp : t2 ≠ p := (ne_of_none g1 nt2).symm
        refine ⟨by rw [List.length_map, g2.1]; exact small1000 (by omega), ⟨ts ++ [t2], by rw [upd_same, List.map_append]; rfl, ?_⟩, (sm6.trans (Same.upd nt2)).at np0, pm.add tree jo hv (by rw [hbk]; intro z; exact nb (Option.some.inj z))⟩
        refine TL.append ?_ (TL.one (by rw [upd_ne ntp, upd_same]; rfl))
        refine ⟨g2.1, fun i t' m' e1 e2 => ?_⟩
        have z := g2.2 i t' m' e1 e2
        rw [upd_ne (ne_lt g1 z), upd_ne (ne_of_none z nt2)]
        exact z
      have g1' : ∀ t2, H7 t2 = none → ∀ o, (upd H7 t2 o) p = some (.lst (ts.map V.ref)) := fun t2 nt2 o => by
        rw [upd_ne (ne_of_none g1 nt2)]
        exact g1
      have atk : atI (nv S.2) (k : Int) = some (.int (bk : Int)) := nv_at hbk
      by_cases c1 : v = e.1
      · have c2 : v ≠ e.2 := fun z => ene (c1.symm.trans z)
        refine ⟨_, rfl, _, rfl, rfl, _, rfl, ?_⟩
        rw [decide_eq_true (show V.int (v : Int) = V.int (e.1 : Int) by rw [c1])]
        refine iteT ⟨_, rfl, _, rfl, b, _, _, _, rfl, rfl, sm6.tup h3, atk, _, rfl, rfl, _, rfl, ?_⟩
        by_cases cb : bk = j
        · rw [decide_eq_true (show V.int (bk : Int) = V.int (j : Int) by rw [cb])]
          refine iteF ?_
          refine ⟨_, rfl, _, rfl, rfl, _, rfl, ?_⟩
          rw [decide_eq_false (show ¬ V.int (v : Int) = V.int (e.2 : Int) from fun z => c2 (by have := V.int.inj z; omega))]
          exact iteF (iteF ⟨l, _, _, rfl, sm6, ⟨ts, g1, g2⟩, pm.skip fun _ _ _ _ => by rw [hbk, cb]⟩)
        · rw [decide_eq_false (show ¬ V.int (bk : Int) = V.int (j : Int) from fun z => cb (by have := V.int.inj z; omega))]
          refine iteT ?_
          refine ⟨_, rfl, .inl ⟨rfl, _, SqL.of g1⟩, _, rfl, _, rfl, _, rfl, by show 3 ≤ sizeLine; decide, fun t2 nt2 => ?_⟩
          obtain ⟨a1, a2, a3, a4⟩ := add e.1 e.2 t2 c1 (.inl he) cb nt2
          refine ⟨p, _, _, rfl, rfl, g1' t2 nt2 _, a1, ?_⟩
          refine ⟨_, rfl, _, rfl, rfl, _, rfl, ?_⟩
          rw [decide_eq_false (show ¬ V.int (v : Int) = V.int (e.2 : Int) from fun z => c2 (by have := V.int.inj z; omega))]
          exact iteF (iteF ⟨_, _, _, rfl, a3, a2, a4⟩)
      · refine ⟨_, rfl, _, rfl, rfl, _, rfl, ?_⟩
        rw [decide_eq_false (show ¬ V.int (v : Int) = V.int (e.1 : Int) from fun z => c1 (by have := V.int.inj z; omega))]
        refine iteF (iteF ?_)
        refine ⟨_, rfl, _, rfl, rfl, _, rfl, ?_⟩
        by_cases c2 : v = e.2
        · rw [decide_eq_true (show V.int (v : Int) = V.int (e.2 : Int) by rw [c2])]
          refine iteT ⟨_, rfl, _, rfl, b, _, _, _, rfl, rfl, sm6.tup h3, atk, _, rfl, rfl, _, rfl, ?_⟩
          by_cases cb : bk = j
          · rw [decide_eq_true (show V.int (bk : Int) = V.int (j : Int) by rw [cb])]
            exact iteF ⟨l, _, _, rfl, sm6, ⟨ts, g1, g2⟩, pm.skip fun _ _ _ _ => by rw [hbk, cb]⟩
          · rw [decide_eq_false (show ¬ V.int (bk : Int) = V.int (j : Int) from fun z => cb (by have := V.int.inj z; omega))]
            refine iteT ?_
            refine ⟨_, rfl, .inl ⟨rfl, _, SqL.of g1⟩, _, rfl, _, rfl, _, rfl, by show 3 ≤ sizeLine; decide, fun t2 nt2 => ?_⟩
            obtain ⟨a1, a2, a3, a4⟩ := add e.2 e.1 t2 c2 (.inr he) cb nt2
            exact ⟨p, _, _, rfl, rfl, g1' t2 nt2 _, a1, _, _, _, rfl, a3, a2, a4⟩
        · rw [decide_eq_false (show ¬ V.int (v : Int) = V.int (e.2 : Int) from fun z => c2 (by have := V.int.inj z; omega))]
          refine iteF (iteF ⟨l, _, _, rfl, sm6, ⟨ts, g1, g2⟩, pm.skip fun x y jo hx => ?_⟩)
          rw [hv] at hx
          cases hx
          rcases jo with jo | jo <;> rw [he] at jo <;> cases jo
          · exact absurd rfl c1
          · exact absurd rfl c2
    · rintro σ H5 ⟨l, y8, y9, rfl, sm, tr, pm⟩
      rw [nv_len] at pm
      exact ⟨l, _, _, _, _, _, rfl, sm, tr, pm.next few⟩
  · rintro σ H2 ⟨l, y5, y6, y7, y8, y9, rfl, sm, ⟨ts, g1, g2⟩, pm⟩
    rw [List.length_map, hlen] at pm
    have ll := pm.len
    have sms : ∀ m ∈ l, Sm m := fun m hm => ((pm.done m).mp hm).sm tree hn ok
    refine ⟨_, rfl, p, _, rfl, SqL.of g1, by rw [List.length_map, g2.1]; omega, fun v hv => ?_, fun ys q0 pr asc nq => ?_⟩
    · obtain ⟨t, ht, rfl⟩ := List.mem_map.mp hv
      obtain ⟨i, hi⟩ := List.mem_iff_getElem?.mp ht
      obtain ⟨m, hm⟩ : ∃ m, l[i]? = some m := get_of g2.1.symm (get_lt hi)
      exact tup_of (g2.2 i t m hi hm) (sms m (List.mem_of_getElem? hm))
    · obtain ⟨ts', l', rfl, cn, tl'⟩ := sorted_canon g2 pm.done sms pm.nd pr asc
      exact q _ q0 l' (sm.trans (Same.upd nq)) (sm.free nq) ⟨ts', upd_same, tl'.same (Same.upd nq)⟩ cn
end
end K5

namespace K5
open PySem PySem.Spec PyProof.Rows L2
/-- a move is blocked: what flies -/
def spPlay (K : PySem.W.Frag) (CI CM : Addr) : Sp := fun vs H Q E => ∃ (a s pl : Addr) (n : Nat) (ds : List (Nat × Nat)) (S : S2) (l : List Mv) (bad : Bool), vs = [.ref a, .ref s, .ref pl] ∧ HouseAt K H a ds ∧ Tree n ds ∧ n ≤ 1000 ∧ StateAt K H s S ∧ StOk n ds S ∧ PlanAt H pl l bad ∧ (∀ m ∈ l, VM ds S.1.length m) ∧
  (bad = true → ∀ (H' : Hp) (t d : Addr), Same H H' → H' t = some (.tup [.str "move", .int (l.length : Int)]) → H' d = some (.xd [("reason", .ref t)]) → E (.ref CI) (some d) H') ∧
  (bad = false → ∀ S', runs ds 0 S l = .inr S' → ∀ (H' : Hp) (q : Addr), Same H H' → StateAt K H' q S' → Q (.ref q) H') ∧
  (bad = false → ∀ i w, runs ds 0 S l = .inl (i, w) → ∀ (H' : Hp) (t d : Addr), Same H H' → H' t = some (.tup [.str (Str.ofString w)]) → H' d = some (.xd [("reason", .ref t), ("index", .int (i : Int))]) → E (.ref CM) (some d) H')
/-- the doors given -/
def spPlayed (K : PySem.W.Frag) (CM : Addr) : Sp := fun vs H Q E => ∃ (pd s pl : Addr) (n : Nat) (ds : List (Nat × Nat)) (kvs : List (List Key × V)) (S : S2) (l : List Mv), vs = [.ref pd, .ref s, .ref pl] ∧ H pd = some (.dT kvs) ∧ DrD ds ds.length kvs ∧ Tree n ds ∧ n ≤ 1000 ∧ StateAt K H s S ∧ StOk n ds S ∧ PlanAt H pl l false ∧ (∀ m ∈ l, VM ds S.1.length m) ∧
  (∀ S', runs ds 0 S l = .inr S' → ∀ (H' : Hp) (q : Addr), Same H H' → StateAt K H' q S' → Q (.ref q) H') ∧
  (∀ i w, runs ds 0 S l = .inl (i, w) → ∀ (H' : Hp) (t d : Addr), Same H H' → H' t = some (.tup [.str (Str.ofString w)]) → H' d = some (.xd [("reason", .ref t), ("index", .int (i : Int))]) → E (.ref CM) (some d) H')
section
variable {P : Program} {w : World} {K : PySem.W.Frag}
      {mg : Str → Option Value} {base : Heap}
theorem ok_played {CM : Addr} (T : Bl mg) (EM : ErrOk P w K mg base "MoveBlocked" CM ["self", "index", "reason"] (spMb CM)) (D : Def K mg "played" s_played) : CalX P w K mg base "played" ["doors", "state", "plan"] 3 (spPlayed K CM) := by
  obtain ⟨f_mb, fd_mb, e_mb, F_mb, B_mb⟩ := EM
  refine D.okX sc_played (fun _ _ _ _ _ _ us hl => match us, hl with | [_, _, _], _ => rfl) (fun vs H Q E h => ?_) (fun f cdv A outer s0 H vs Q E hr h => ?_)
  · obtain ⟨pd, s, pl, n, ds, kvs, S, l, rfl, _⟩ := h
    rfl
  obtain ⟨pd, s, pl, n, ds, kvs, S, l, rfl, hpd, dr, tree, hn, st, ok, hpl, vm, q0, q2⟩ := h
  obtain ⟨r, b, h1, h2, h3⟩ := id st
  have hdn := tree.len
  have one := ok.one
  skip
  refine ⟨_, (pss_cons (ps_set (i := 3) sc_played.nd rfl (.inl rfl) (pe_callTy call_list_of (by rfl) T.list (by decide +kernel) (pa_cons (pe_ix ix_tup (pv 1) pe_int (fun _ _ => rfl)) pa_nil)))
    (pss_cons (ps_set (i := 4) sc_played.nd rfl (.inl rfl) (pe_callTy call_list_of (by rfl) T.list (by decide +kernel) (pa_cons (pe_ix ix_tup (pv 1) pe_int (fun _ _ => rfl)) pa_nil)))
    (pss_cons (ps_for (passes_of rfl) rfl (pi_enum (by rfl) T.enumerate (pa_cons (pv 2) pa_nil)) (pg_tup (n := 2) rfl (pgs_cons (pg_name (i := 5) sc_played.nd rfl (.inl rfl)) (pgs_cons (pg_tup (n := 3) rfl (pgs_cons (pg_name (i := 6) sc_played.nd rfl (.inl rfl)) (pgs_cons (pg_name (i := 7) sc_played.nd rfl (.inl rfl)) (pgs_cons (pg_name (i := 8) sc_played.nd rfl (.inl rfl)) pgs_nil)))) pgs_nil)))
    (pss_cons (ps_set (i := 9) sc_played.nd rfl (.inl rfl) (pe_dget (hu_of hr) (pv 0) (pe_tup (pa_cons (pv 7) (pa_cons (pv 8) pa_nil))) (fun _ _ => rfl)))
    (pss_cons (ps_if (pt_cmpR op_ne (pe_ix ix_list (pv 3) (pv 6) (fun _ _ => rfl)) (pv 7) (nomark _)) (pss_one (ps_raise rfl (takes_of rfl rfl rfl rfl) (by exact (pmk_oex e_mb.o e_mb.i e_mb.t F_mb (hr.mono (by decide)) B_mb .nil pass0 (by rfl) e_mb.g (pa_cons (pv 5) (pa_cons (pe_tup (pa_cons pe_str pa_nil)) pa_nil)))))) pss_nil)
    (pss_cons (ps_if (pt_cmpR op_eq (pe_ix ix_list (pv 4) (pv 9) (fun _ _ => rfl)) (pv 6) (nomark _)) (pss_one (ps_raise rfl (takes_of rfl rfl rfl rfl) (by exact (pmk_oex e_mb.o e_mb.i e_mb.t F_mb (hr.mono (by decide)) B_mb .nil pass0 (by rfl) e_mb.g (pa_cons (pv 5) (pa_cons (pe_tup (pa_cons pe_str pa_nil)) pa_nil)))))) pss_nil)
    (pss_cons (ps_asg (pv 8) (pg_sub (pv 3) (pv 6) set_list))
    (pss_one (ps_asg (pv 6) (pg_sub (pv 4) (pv 9) set_list))))))))
    (pss_one (ps_ret (pe_tup (pa_cons (pe_callTy call_tuple_of (by rfl) T.tuple (by decide +kernel) (pa_cons (pv 3) pa_nil)) (pa_cons (pe_callTy call_tuple_of (by rfl) T.tuple (by decide +kernel) (pa_cons (pv 4) pa_nil)) pa_nil)))))))), ?_⟩
  obtain ⟨ts, hts, tl⟩ := hpl
  rw [if_neg (by simp), List.append_nil] at hts
  refine ⟨_, rfl, s, _, _, _, rfl, rfl, h1, atI_nat (j := 0) rfl, r, _, rfl, .inr h2, fun pr npr => ?_⟩
  have s14 := Same.upd (o := .lst (nv S.1)) npr
  have hpd4 : (upd H pr (.lst (nv S.1))) pd = some (.dT kvs) := by rw [upd_ne (ne_of_none hpd npr)]; exact hpd
  have hpr4 : (upd H pr (.lst (nv S.1))) pr = some (.lst (nv S.1)) := upd_same
  have npr0 := npr
  generalize upd H pr (.lst (nv S.1)) = H4 at s14 hpd4 hpr4
  refine ⟨_, rfl, s, _, _, _, rfl, rfl, s14.tup h1, atI_nat (j := 1) rfl, b, _, rfl, .inr (s14.tup h3), fun pb npb => ?_⟩
  have s15 := s14.trans (Same.upd (o := .lst (nv S.2)) npb)
  have hpd5 : (upd H4 pb (.lst (nv S.2))) pd = some (.dT kvs) := by rw [upd_ne (ne_of_none hpd4 npb)]; exact hpd4
  have nrb : pr ≠ pb := ne_of_none hpr4 npb
  have hpr5 : (upd H4 pb (.lst (nv S.2))) pr = some (.lst (nv S.1)) := by rw [upd_ne nrb]; exact hpr4
  have hpb5 : (upd H4 pb (.lst (nv S.2))) pb = some (.lst (nv S.2)) := upd_same
  have npb0 := s14.free npb
  generalize upd H4 pb (.lst (nv S.2)) = H5 at s15 hpd5 hpr5 hpb5
  have ndr : pd ≠ pr := ne_of hpd5 hpr5 (by intro z; cases z)
  have ndb : pd ≠ pb := ne_of hpd5 hpb5 (by intro z; cases z)
  refine ⟨_, rfl, pl, _, rfl, SqL.of (s15 _ _ hts), ?_⟩
  refine for_it (walk_enum (K := K) (a := pl) (xs := ts.map V.ref)) (fun k σ H6 => ∃ Sk y6 y7 y8 y9 y10, σ = [some (.ref pd), some (.ref s), some (.ref pl), some (.ref pr), some (.ref pb), y6, y7, y8, y9, y10] ∧ Same H H6 ∧
      H6 pd = some (.dT kvs) ∧ H6 pr = some (.lst (nv Sk.1)) ∧ H6 pb = some (.lst (nv Sk.2)) ∧ StOk n ds Sk ∧ Sk.1.length = S.1.length ∧ runs ds 0 S l = runs ds k Sk (l.drop k))
    ⟨S, _, _, _, _, _, rfl, s15, hpd5, hpr5, hpb5, ok, rfl, rfl⟩ (fun i σ H6 _ ⟨_, _, _, _, _, _, _, sm, _⟩ => SqL.of (sm _ _ hts)) ?_ ?_
  · rintro k x σ H6 H7 hk ⟨Sk, y6, y7, y8, y9, y10, rfl, sm, g1, g2, g3, okk, lk, er⟩ ⟨t, x1, x2, rfl, nt, rfl, ex1, ex2⟩
    cases ex1
    have hk' : k < l.length := by
      rw [List.length_map, tl.1] at hk
      exact hk
    obtain ⟨t1, ht1⟩ : ∃ t1, ts[k]? = some t1 := get_of tl.1 hk'
    obtain ⟨m, hm⟩ : ∃ m, l[k]? = some m := get_of rfl hk'
    have ex2' : V.ref t1 = x2 := by
      have ex2 : (ts.map V.ref)[k]? = some x2 := ex2
      rw [List.getElem?_map, ht1] at ex2
      exact Option.some.inj ex2
    subst ex2'
    obtain ⟨v1, d, j⟩ := vm m (List.mem_of_getElem? hm)
    have smt : Same H6 (upd H6 t (.tup [.int (k : Nat), .ref t1])) := Same.upd nt
    have sm7 := sm.trans smt
    have htm := sm7 _ _ (tl.2 k t1 m ht1 hm)
    have g17 := smt _ _ g1
    have g27 := smt _ _ g2
    have g37 := smt _ _ g3
    refine ⟨t, _, rfl, SqT.of upd_same, rfl, _, _, rfl, _, _, rfl, ⟨t1, _, rfl, SqT.of htm, rfl, _, _, rfl, _, _, rfl, _, _, rfl, rfl, rfl, ?_⟩⟩
    generalize upd H6 t (.tup [.int (k : Nat), .ref t1]) = H8 at smt sm7 htm g17 g27 g37
    refine ⟨_, rfl, _, rfl, _, rfl, by show 2 ≤ sizeLine; decide, fun t2 nt2 => ?_⟩
    have sm9 := sm7.trans (Same.upd (o := .tup [.int (m.2.1 : Int), .int (m.2.2 : Int)]) nt2)
    have g19 := (Same.upd (o := .tup [.int (m.2.1 : Int), .int (m.2.2 : Int)]) nt2) _ _ g17
    have g29 := (Same.upd (o := .tup [.int (m.2.1 : Int), .int (m.2.2 : Int)]) nt2) _ _ g27
    have g39 := (Same.upd (o := .tup [.int (m.2.1 : Int), .int (m.2.2 : Int)]) nt2) _ _ g37
    refine ⟨pd, .int (d : Int), rfl, ?_, ?_⟩
    · have := DGet.t (k := kD m.2.1 m.2.2) g19 upd_same
      rw [dr.at_ d _ _ (joins_lt j) j] at this
      exact this
    generalize upd H8 t2 (.tup [.int (m.2.1 : Int), .int (m.2.2 : Int)]) = H9 at sm9 g19 g29 g39
    have v1' : m.1 < Sk.1.length := by rw [lk]; exact v1
    obtain ⟨v, hv⟩ : ∃ v, Sk.1[m.1]? = some v := get_of rfl v1'
    have hd : d < Sk.2.length := by rw [okk.doors]; exact joins_lt j
    obtain ⟨bd, hbd⟩ : ∃ bd, Sk.2[d]? = some bd := get_of rfl hd
    have ed := dix_is tree j
    have rd := runs_drop (ds := ds) (S := Sk) hm
    refine ⟨_, rfl, _, rfl, pr, _, _, _, rfl, rfl, SqL.of g29, nv_at hv, _, rfl, rfl, _, rfl, ?_⟩
    have flies : ∀ (wd : String) (H10 : Hp) (tt : Addr), why ds Sk m = some wd → Same H9 H10 → H10 tt = some (.tup [.str (Str.ofString wd)]) → tMkO CM (spMb CM) [] (fun σ H Q => Q [.int (k : Int), .ref tt] H) ([] : L2.St) H10 (fun cls d H' => E cls d H') := by
      intro wd H10 tt hw s10 htt
      refine ⟨by show 2 ≤ 1000; decide, fun bb nb => ⟨bb, _, _, rfl, upd_same, fun dd nd ne => ?_⟩⟩
      rw [upd_ne ne] at nd
      rw [hw] at rd
      have sm3 := Same.err (G := upd (upd (upd (upd H10 bb (exo bb CM none)) dd (exd dd [("index", .int (k : Int))])) bb (exo bb CM (some dd))) dd (exd dd [("reason", .ref tt), ("index", .int (k : Int))])) (y := .xd [("reason", .ref tt), ("index", .int (k : Int))]) nb nd
        fun c h1 h2 => by rw [upd_ne h2, upd_ne h1, upd_ne h2, upd_ne h1]
      exact ⟨rfl, dd, _, by rw [upd_ne ne.symm, upd_same], upd_same, nd, q2 k wd (er.trans rd) _ tt dd ((sm9.trans s10).trans sm3) (sm3 _ _ htt) upd_same⟩
    by_cases cv : v = m.2.1
    · rw [decide_eq_true (show V.int (v : Int) = V.int (m.2.1 : Int) by rw [cv])]
      refine iteF ?_
      refine ⟨_, rfl, _, rfl, pb, _, _, _, rfl, rfl, SqL.of g39, nv_at hbd, _, rfl, rfl, _, rfl, ?_⟩
      by_cases cb : bd = m.1
      · rw [decide_eq_true (show V.int (bd : Int) = V.int (m.1 : Int) by rw [cb])]
        have hw : why ds Sk m = some "barred" := by
          unfold why
          rw [if_neg (by rw [getD_of hv, cv]; simp), ed, if_pos (by rw [getD_of hbd, cb])]
        exact iteT ⟨_, rfl, by show 1 ≤ sizeLine; decide, fun tt ntt => flies "barred" _ tt hw (Same.upd ntt) upd_same⟩
      · rw [decide_eq_false (show ¬ V.int (bd : Int) = V.int (m.1 : Int) from fun z => cb (by have := V.int.inj z; omega))]
        have hw : why ds Sk m = none := by
          unfold why
          rw [if_neg (by rw [getD_of hv, cv]; simp), ed, if_neg (by rw [getD_of hbd]; exact cb)]
        rw [hw] at rd
        refine iteF ?_
        refine ⟨_, rfl, _, rfl, _, rfl, pr, _, _, m.1, rfl, rfl, g29, ixN_nat (by rw [nv_len]; exact v1'), ?_⟩
        refine ⟨_, rfl, _, rfl, _, rfl, pb, _, _, d, rfl, rfl, by rw [upd_ne nrb.symm]; exact g39, ixN_nat (by rw [nv_len]; exact hd), ?_⟩
        rw [nv_set, nv_set]
        refine ⟨nxt ds Sk m, _, _, _, _, _, rfl, (sm9.at npr0).at npb0, by rw [upd_ne ndb, upd_ne ndr]; exact g19, by rw [upd_ne nrb, upd_same]; rfl, by rw [upd_same, ← ed]; rfl, okk.nxt tree ⟨v1', d, j⟩, by rw [nxt_len]; exact lk, er.trans rd⟩
    · rw [decide_eq_false (show ¬ V.int (v : Int) = V.int (m.2.1 : Int) from fun z => cv (by have := V.int.inj z; omega))]
      have hw : why ds Sk m = some "away" := by
        unfold why
        rw [if_pos (by rw [getD_of hv]; exact cv)]
      exact iteT ⟨_, rfl, by show 1 ≤ sizeLine; decide, fun tt ntt => flies "away" _ tt hw (Same.upd ntt) upd_same⟩
  · rintro σ H6 ⟨Sk, y6, y7, y8, y9, y10, rfl, sm, g1, g2, g3, okk, lk, er⟩
    rw [List.length_map, tl.1, List.drop_length] at er
    refine ⟨_, rfl, pr, _, rfl, .inl ⟨SqL.of g2, fun u1 nu1 => ?_⟩⟩
    have sA := Same.upd (o := .tup (nv Sk.1)) nu1
    refine ⟨_, rfl, pb, _, rfl, .inl ⟨SqL.of (sA _ _ g3), fun u2 nu2 => ?_⟩⟩
    have sB := Same.upd (o := .tup (nv Sk.2)) nu2
    refine ⟨by show 2 ≤ sizeLine; decide, fun u3 nu3 => ?_⟩
    have sC := Same.upd (o := .tup [.ref u1, .ref u2]) nu3
    exact q0 Sk er _ u3 (((sm.trans sA).trans sB).trans sC) ⟨u1, u2, SqT.of upd_same, SqT.of (sC _ _ (sB _ _ upd_same)), SqT.of (sC _ _ upd_same)⟩
theorem ok_play {CI CM : Addr} (T : Bl mg) (D : Def K mg "play" s_play) (C_need_state : Cal P w K mg base "need_state" ["house", "state"] 7 (spSt K))
    (C_need_plan : CalX P w K mg base "need_plan" ["house", "people", "plan"] 7 (spNeedPlan K CI)) (C_doors_by_ends : Cal P w K mg base "doors_by_ends" ["house"] 1 (spDoors K)) (C_played : CalX P w K mg base "played" ["doors", "state", "plan"] 3 (spPlayed K CM)) : CalX P w K mg base "play" ["house", "state", "plan"] 8 (spPlay K CI CM) := by
  refine D.okX sc_play (fun _ _ _ _ _ _ us hl => match us, hl with | [_, _, _], _ => rfl) (fun vs H Q E h => ?_) (fun f cdv A outer s H vs Q E hr h => ?_)
  · obtain ⟨a, s, pl, n, ds, S, l, bad, rfl, _⟩ := h
    rfl
  obtain ⟨a, s, pl, n, ds, S, l, bad, rfl, hH, tree, hn, st, ok, hpl, vm, q1, q0, q2⟩ := h
  obtain ⟨r, b, h1, h2, h3⟩ := id st
  have hdn := tree.len
  have one := ok.one
  obtain ⟨f_need_state, fd_need_state, g_need_state, k_need_state, b_need_state, G_need_state⟩ := C_need_state
  obtain ⟨f_need_plan, fd_need_plan, g_need_plan, k_need_plan, b_need_plan, G_need_plan⟩ := C_need_plan
  obtain ⟨f_played, fd_played, g_played, k_played, b_played, G_played⟩ := C_played
  obtain ⟨f_doors_by_ends, fd_doors_by_ends, g_doors_by_ends, k_doors_by_ends, b_doors_by_ends, G_doors_by_ends⟩ := C_doors_by_ends
  refine ⟨_, (pss_cons (ps_expr (pe_call G_need_state (hr.mono (by decide)) (by rfl) g_need_state k_need_state b_need_state .nil pass0 (pa_cons (pv 0) (pa_cons (pv 1) pa_nil))))
    (pss_cons (ps_expr (pe_call G_need_plan (hr.mono (by decide)) (by rfl) g_need_plan k_need_plan b_need_plan .nil (passes_call (takes_of rfl rfl rfl rfl) (fun _ _ _ _ h => h)) (pa_cons (pv 0) (pa_cons (pe_callB call_len_seq (by rfl) T.len PySem.boot_len (pa_cons (pe_ix ix_tup (pv 1) pe_int (fun _ _ => rfl)) pa_nil)) (pa_cons (pv 2) pa_nil)))))
    (pss_one (ps_ret (pe_call G_played (hr.mono (by decide)) (by rfl) g_played k_played b_played .nil (passes_call (takes_of rfl rfl rfl rfl) (fun _ _ _ _ h => h)) (pa_cons (pe_call G_doors_by_ends (hr.mono (by decide)) (by rfl) g_doors_by_ends k_doors_by_ends b_doors_by_ends .nil pass0 (pa_cons (pv 0) pa_nil)) (pa_cons (pv 1) (pa_cons (pv 2) pa_nil)))))))), ?_⟩
  refine ⟨_, rfl, _, rfl, a, s, ds, n, S, rfl, hH, tree, hn, st, ok, fun H1 s1 => ?_⟩
  refine ⟨_, rfl, _, rfl, s, _, _, _, rfl, rfl, s1.tup h1, atI_nat (j := 0) rfl, _, _, rfl, .inr (s1.tup h2), _, rfl, ?_⟩
  refine ⟨a, pl, S.1.length, n, ds, l, bad, by rw [nv_len]; rfl, hH.same s1, tree, hn, one, hpl.same s1, vm, fun eb H2 s2 => ?_, fun eb H2 t d s2 ht hd => q1 eb H2 t d (s1.trans s2) ht hd⟩
  subst eb
  have s12 := s1.trans s2
  refine ⟨_, rfl, a, ds, n, rfl, hH.same s12, tree, hn, fun H3 pd kvs s3 npd hpd dr => ?_⟩
  have s13 := s12.trans s3
  refine ⟨_, rfl, _, rfl, pd, s, pl, n, ds, kvs, S, l, rfl, hpd, dr, tree, hn, st.same s13, ok, hpl.same s13, vm, fun S' e H4 q s4 hq => ?_, fun i w e H4 t d s4 ht hd => ?_⟩
  · exact q0 rfl S' e _ q (s13.trans s4) hq
  · exact q2 rfl i w e _ t d (s13.trans s4) ht hd
end
end K5

namespace K5
open PySem PySem.Spec PyProof.Rows L2
/-- two tuples joined, whatever they hold -/
theorem catA_of {K : PySem.W.Frag} {H : Hp} {a b : Addr} {xs ys : List V} {Q : VK} (h1 : SqT K H a xs) (h2 : SqT K H b ys) (hl : xs.length + ys.length ≤ sizeLine) (q : ∀ (H' : Hp) (p : Addr), Same H H' → SqT K H' p (xs ++ ys) → Q (.ref p) H') :
    rCatA K (.ref a) (.ref b) H Q := by
  refine ⟨a, b, xs, ys, rfl, rfl, h1, h2, hl, fun e => ?_, fun _ e => ?_, fun _ _ p np => q _ p (Same.upd np) (SqT.of upd_same)⟩
  · refine q H b (Same.refl _) ?_
    rw [e, List.nil_append]
    exact h2
  · refine q H a (Same.refl _) ?_
    rw [e, List.append_nil]
    exact h1
theorem nv_app (a b : List Nat) : nv a ++ nv b = nv (a ++ b) := by
  unfold nv
  rw [List.map_append]
theorem set_cut {α : Type} : ∀ (l : List α) (k : Nat) (x : α), k < l.length → l.take k ++ [x] ++ l.drop (k + 1) = l.set k x
  | [], k, x, h => by simp at h
  | a :: r, 0, x, h => rfl
  | a :: r, k + 1, x, h => by
    have := set_cut r k x (by simpa using h)
    show a :: (r.take k ++ [x] ++ r.drop (k + 1)) = a :: r.set k x
    rw [this]
theorem nv_cut (L : List Nat) (k x : Nat) (h : k < L.length) : nv (L.take k) ++ [V.int (x : Int)] ++ nv (L.drop (k + 1)) = nv (L.set k x) := by
  rw [← set_cut L k x h, ← nv_app, ← nv_app]
  rfl
theorem cut_to {L : List Nat} {k : Nat} (h : k < L.length) : cutV (nv L) none (some (k : Int)) = nv (L.take k) ∧ ¬ (HT.sIx (nv L).length 0 none = 0 ∧ HT.sIx (nv L).length (nv L).length (some (k : Int)) = (nv L).length) := by
  unfold cutV
  rw [HT.sIx_none, HT.sIx_nat, nv_len, Nat.min_eq_left (Nat.le_of_lt h)]
  refine ⟨?_, fun z => by omega⟩
  unfold nv
  rw [List.drop_zero, Nat.sub_zero, List.map_take]
theorem cut_from {L : List Nat} {k : Nat} (h : k < L.length) : cutV (nv L) (some ((k : Int) + 1)) none = nv (L.drop (k + 1)) ∧ ¬ (HT.sIx (nv L).length 0 (some ((k : Int) + 1)) = 0 ∧ HT.sIx (nv L).length (nv L).length none = (nv L).length) := by
  unfold cutV
  rw [show (k : Int) + 1 = ((k + 1 : Nat) : Int) by omega, HT.sIx_none, HT.sIx_nat, nv_len, Nat.min_eq_left h]
  refine ⟨?_, fun z => by omega⟩
  unfold nv
  rw [← List.map_drop, List.take_of_length_le]
  rw [List.length_map, List.length_drop]
  exact Nat.le_refl _
def spRState (K : PySem.W.Frag) : Sp := fun vs H Q _ => ∃ (g a : Addr) (b p n : Nat) (ds : List (Nat × Nat)), vs = [.ref g, .ref a, .int (p : Int)] ∧ GenAt H g b ∧ HouseAt K H a ds ∧ Tree n ds ∧ n ≤ 15 ∧ 1 ≤ p ∧ p ≤ 4 ∧ b < 2 ^ 59 ∧
  ∀ (H' : Hp) (s : Addr) (S : S2), But g H H' → GenAt H' g (b + 100) → StateAt K H' s S → StOk n ds S → Q (.ref s) H'
def spMoved (K : PySem.W.Frag) : Sp := fun vs H Q _ => ∃ (a s t : Addr) (n : Nat) (ds : List (Nat × Nat)) (S : S2) (m : Mv), vs = [.ref a, .ref s, .ref t] ∧ HouseAt K H a ds ∧ Tree n ds ∧ n ≤ 1000 ∧ StateAt K H s S ∧ StOk n ds S ∧ H t = some (.tup (tI m)) ∧ VM ds S.1.length m ∧
  (∀ w, why ds S m = some w → ∀ (H' : Hp) (q : Addr), Same H H' → H' q = some (.lst [.str (Str.ofString w), .ref s]) → Q (.ref q) H') ∧
  (why ds S m = none → ∀ (H' : Hp) (q s' : Addr), Same H H' → H' q = some (.lst [.str "done", .ref s']) → StateAt K H' s' (nxt ds S m) → Q (.ref q) H')
section
variable {P : Program} {w : World} {K : PySem.W.Frag}
      {mg : Str → Option Value} {base : Heap}
theorem ok_random_state (T : Bl mg) (D : Def K mg "_law_random_state" s_l_random_state) (C_l_random : Cal P w K mg base "_law_random" ["_law_generator_here", "_law_bound"] 2 spRand) : Cal P w K mg base "_law_random_state" ["_law_generator_here", "_law_doors", "_law_people"] 3 (spRState K) := by
  refine D.ok sc_l_random_state (fun _ _ _ _ _ _ us hl => match us, hl with | [_, _, _], _ => rfl) (fun vs H Q E h => ?_) (fun f cdv A outer s H vs Q E hr h => ?_)
  · obtain ⟨g, a, b, p, n, ds, rfl, _⟩ := h
    rfl
  obtain ⟨g, a, b, p, n, ds, rfl, hg, hH, tree, hn, hp1, hp4, hb, q⟩ := h
  obtain ⟨rs, hrs, hlen, hds⟩ := id hH
  have hdn := tree.len
  have hn1 : 1 ≤ n := by omega
  obtain ⟨f_l_random, fd_l_random, g_l_random, k_l_random, b_l_random, G_l_random⟩ := C_l_random
  refine ⟨_, (pss_cons (ps_set (i := 3) sc_l_random_state.nd rfl (.inl rfl) (pe_op op_add (pe_callB call_len_seq (by rfl) T.len PySem.boot_len (pa_cons (pv 1) pa_nil)) pe_int))
    (pss_cons (ps_set (i := 4) sc_l_random_state.nd rfl (.inr rfl) (pe_ix ix_list (pe_lst (pa_cons (pv 3) (pa_cons (pv 3) (pa_cons (pe_op op_add pe_int (pe_call G_l_random (hr.mono (by decide)) (by rfl) g_l_random k_l_random b_l_random .nil pass0 (pa_cons (pv 0) (pa_cons (pv 3) pa_nil)))) pa_nil)))) (pe_call G_l_random (hr.mono (by decide)) (by rfl) g_l_random k_l_random b_l_random .nil pass0 (pa_cons (pv 0) (pa_cons pe_int pa_nil))) (fun _ _ => rfl)))
    (pss_cons (ps_setLc (i := 5) (own := [("_law_person", 6)]) (g := gName 6)  rfl sc_l_random_state.nd rfl rfl (sw_true rfl rfl rfl (by decide +kernel)) (pi_range1 rfl T.range (pa_cons (pv 2) pa_nil)) (blkOk_by (N := N_l_random_state) (sc := defScope s_l_random_state) (own := [("_law_person", 6)]) (by decide +kernel)) (fun _ _ _ _ _ => (pg_name (i := 6) sc_l_random_state.nd rfl (.inl rfl) (.inr rfl))) (fun _ _ _ _ _ => pts_nil) (fun _ _ _ _ _ => (pe_call G_l_random (hr.mono (by decide)) (by rfl) g_l_random k_l_random b_l_random .nil pass0 (pa_cons (pv 0) (pa_cons (pv 4) pa_nil)))))
    (pss_one (ps_ret (pe_tup (pa_cons (pe_callTy call_tuple_of (by rfl) T.tuple (by decide +kernel) (pa_cons (pv 5) pa_nil)) (pa_cons (pe_callTy call_tuple_of (by rfl) T.tuple (by decide +kernel) (pa_cons (pe_lc (own := [("_law_door", 7)]) (g := gName 7)  rfl sc_l_random_state.nd (pi_tup (pv 1)) (blkOk_by (N := N_l_random_state) (sc := defScope s_l_random_state) (own := [("_law_door", 7)]) (by decide +kernel)) (fun _ _ _ _ _ => (pg_name (i := 7) sc_l_random_state.nd rfl (.inl rfl) (.inr rfl))) (fun _ _ _ _ _ => pts_nil) (fun _ _ _ _ _ => (pe_call G_l_random (hr.mono (by decide)) (by rfl) g_l_random k_l_random b_l_random .nil pass0 (pa_cons (pv 0) (pa_cons (pv 2) pa_nil))))) pa_nil)) pa_nil)))))))), ?_⟩
  have en : (((rs.map V.ref).length : Nat) : Int) + 1 = ((n : Nat) : Int) := by
    rw [List.length_map, hlen]
    omega
  have hgl := hg.lst
  obtain ⟨gx, hgx⟩ := hgl
  refine ⟨_, rfl, _, _, rfl, .inr hrs, _, _, rfl, rfl, ?_⟩
  refine ⟨_, rfl, _, rfl, _, rfl, _, rfl, g, b, n, congrArg (fun z => [V.ref g, V.int z]) en, hg, by omega, by omega, by omega, fun H1 v bt1 g1 hv => ⟨_, _, rfl, rfl, by show 3 ≤ sizeLine; decide, fun pl npl => ?_⟩⟩
  have nplg : pl ≠ g := g1.ne npl
  refine ⟨_, rfl, g, b + 1, 3, rfl, g1.at nplg, by decide, by decide, by omega, fun H2 u bt2 g2 hu => ?_⟩
  obtain ⟨sp, hsp, sp0, sp1⟩ : ∃ sp : Nat, ([V.int ((((rs.map V.ref).length : Nat) : Int) + 1), V.int ((((rs.map V.ref).length : Nat) : Int) + 1), V.int (1 + (v : Int))] : List V)[u]? = some (.int (sp : Int)) ∧ 1 ≤ sp ∧ sp ≤ n := by
    match u, hu with
    | 0, _ => exact ⟨n, congrArg (fun z => some (V.int z)) en, hn1, Nat.le_refl _⟩
    | 1, _ => exact ⟨n, congrArg (fun z => some (V.int z)) en, hn1, Nat.le_refl _⟩
    | 2, _ => exact ⟨1 + v, congrArg (fun z => some (V.int z)) (by omega), by omega, by omega⟩
  refine ⟨pl, _, _, _, rfl, rfl, SqL.of (bt2 _ _ nplg upd_same), atI_nat hsp, ?_⟩
  have bt02 : But g H H2 := (bt1.at (bt1.free nplg npl) _).trans bt2
  refine ⟨_, rfl, (p : Int), rfl, by omega, by omega, fun pd npd => ?_⟩
  have npdg : pd ≠ g := g2.ne npd
  have npd0 := bt02.free npdg npd
  refine lc_range (lo := 0) (n := p) (fun i H3 => ∃ L : List Nat, But g H H3 ∧ GenAt H3 g (b + 2 + i) ∧ H3 pd = some (.lst (nv L)) ∧ L.length = i ∧ ∀ x ∈ L, x < sp) ?_ ?_ ?_
  · exact ⟨[], bt02.at npd0 _, g2.at npdg, upd_same, rfl, fun x hx => (List.not_mem_nil hx).elim⟩
  · rintro i H3 hi ⟨L, bt3, g3, hL, hl, lt⟩
    refine ⟨rfl, lcYes ?_⟩
    refine ⟨_, rfl, _, rfl, g, b + 2 + i, sp, rfl, g3, by omega, by omega, by omega, fun H4 z bt4 g4 hz => ?_⟩
    refine ⟨_, bt4 _ _ npdg hL, by rw [nv_len]; exact small1000 (by omega), L ++ [z], (bt3.trans bt4).at npd0 _, g4.at npdg, by rw [upd_same, nv_snoc], by simp [hl], fun x hx => ?_⟩
    rcases List.mem_append.mp hx with hx | hx
    · exact lt x hx
    · rw [List.mem_singleton] at hx
      rw [hx]
      exact hz
  · rintro H3 ⟨L, bt3, g3, hL, hl, lt⟩
    refine ⟨_, rfl, pd, _, rfl, .inl ⟨SqL.of hL, fun t1 nt1 => ?_⟩⟩
    have nt1g : t1 ≠ g := g3.ne nt1
    have btA := bt3.at (bt3.free nt1g nt1) (.tup (nv L))
    have gA := g3.at (o := .tup (nv L)) nt1g
    have hA : (upd H3 t1 (.tup (nv L))) t1 = some (.tup (nv L)) := upd_same
    generalize upd H3 t1 (.tup (nv L)) = H4 at btA gA hA
    refine ⟨_, rfl, a, rfl, ⟨_, btA.tup hgx hrs⟩, fun pe npe => ?_⟩
    have npeg : pe ≠ g := gA.ne npe
    have npe0 := btA.free npeg npe
    have n1e : t1 ≠ pe := ne_of_none hA npe
    refine lc_it (walk_tup (K := K) (a := a) (xs := rs.map V.ref)) (fun i H5 => ∃ M : List Nat, But g H4 H5 ∧ GenAt H5 g (b + 6 + i) ∧ H5 pe = some (.lst (nv M)) ∧ M.length = i ∧ ∀ x ∈ M, x < p)
      ⟨[], (Same.refl _).but.at npe _, (gA.at npeg).mono (by omega), upd_same, rfl, fun x hx => (List.not_mem_nil hx).elim⟩ (fun i H5 _ ⟨_, bt5, _⟩ => (btA.trans bt5).tup hgx hrs) ?_ ?_
    · rintro i x H5 H6 hi ⟨M, bt5, g5, hM, hl5, lt5⟩ ⟨rfl, ex⟩
      have hi' : i < ds.length := by
        rw [List.length_map, hlen] at hi
        exact hi
      refine ⟨rfl, lcYes ?_⟩
      refine ⟨_, rfl, _, rfl, g, b + 6 + i, p, rfl, g5, by omega, by omega, by omega, fun H7 z bt7 g7 hz => ?_⟩
      refine ⟨_, bt7 _ _ npeg hM, by rw [nv_len]; exact small1000 (by omega), M ++ [z], (bt5.trans bt7).at npe _, g7.at npeg, by rw [upd_same, nv_snoc], by simp [hl5], fun x hx => ?_⟩
      rcases List.mem_append.mp hx with hx | hx
      · exact lt5 x hx
      · rw [List.mem_singleton] at hx
        rw [hx]
        exact hz
    · rintro H5 ⟨M, bt5, g5, hM, hl5, lt5⟩
      rw [List.length_map, hlen] at hl5 g5
      refine ⟨pe, _, rfl, .inl ⟨SqL.of hM, fun t2 nt2 => ?_⟩⟩
      have nt2g : t2 ≠ g := g5.ne nt2
      refine ⟨by show 2 ≤ sizeLine; decide, fun t3 nt3 => ?_⟩
      have n3g : t3 ≠ g := (g5.at nt2g).ne nt3
      have sB := Same.upd (o := .tup (nv M)) nt2
      have sC := Same.upd (o := .tup [.ref t1, .ref t2]) nt3
      have btE := ((btA.trans bt5).at ((btA.trans bt5).free nt2g nt2) (.tup (nv M)))
      have h15 := bt5 _ _ (gA.lst.elim fun ys hy => ne_lt hy hA) hA
      refine q _ t3 (L, M) (btE.at (btE.free n3g nt3) _) (((g5.at nt2g).at n3g).mono (by omega)) ⟨t1, t2, SqT.of upd_same, SqT.of (sC _ _ (sB _ _ h15)), SqT.of (sC _ _ upd_same)⟩ ⟨?_, ?_, ?_, hl5, ?_⟩
      · show 1 ≤ L.length
        omega
      · show L.length ≤ 4
        omega
      · intro x hx
        have := lt x hx
        omega
      · intro y hy
        show y < L.length
        rw [hl]
        exact lt5 y hy
end
end K5

namespace K5
open PySem PySem.Spec PyProof.Rows L2
section
variable {P : Program} {w : World} {K : PySem.W.Frag}
      {mg : Str → Option Value} {base : Heap}
theorem ok_moved (T : Bl mg) (D : Def K mg "_law_moved" s_l_moved) (C_l_neighbours : Cal P w K mg base "_law_neighbours" ["_law_doors", "_law_place"] 1 (spNeigh K)) : Cal P w K mg base "_law_moved" ["_law_doors", "_law_position", "_law_step"] 2 (spMoved K) := by
  refine D.ok sc_l_moved (fun _ _ _ _ _ _ us hl => match us, hl with | [_, _, _], _ => rfl) (fun vs H Q E h => ?_) (fun f cdv A outer s H vs Q E hr h => ?_)
  · obtain ⟨a, s, t, n, ds, S, m, rfl, _⟩ := h
    rfl
  obtain ⟨a, s, t, n, ds, S, m, rfl, hH, tree, hn, st, ok, ht, ⟨v1, d, j⟩, qw, qn⟩ := h
  obtain ⟨r, b, h1, h2, h3⟩ := id st
  have hdn := tree.len
  obtain ⟨f_l_neighbours, fd_l_neighbours, g_l_neighbours, k_l_neighbours, b_l_neighbours, G_l_neighbours⟩ := C_l_neighbours
  refine ⟨_, (pss_cons (ps_asg (pv 2) (pg_tup (n := 3) rfl (pgs_cons (pg_name (i := 3) sc_l_moved.nd rfl (.inl rfl)) (pgs_cons (pg_name (i := 4) sc_l_moved.nd rfl (.inl rfl)) (pgs_cons (pg_name (i := 5) sc_l_moved.nd rfl (.inr rfl)) pgs_nil)))))
    (pss_cons (ps_asg (pv 1) (pg_tup (n := 2) rfl (pgs_cons (pg_name (i := 6) sc_l_moved.nd rfl (.inl rfl)) (pgs_cons (pg_name (i := 7) sc_l_moved.nd rfl (.inl rfl)) pgs_nil))))
    (pss_cons (ps_if (pt_cmpR op_ne (pe_ix ix_tup (pv 6) (pv 3) (fun _ _ => rfl)) (pv 4) (nomark _)) (pss_one (ps_ret (pe_lst (pa_cons pe_str (pa_cons (pv 1) pa_nil))))) pss_nil)
    (pss_cons (ps_set (i := 8) sc_l_moved.nd rfl (.inl rfl) (pe_ix ix_list (pe_lc (own := [("_law_other", 9), ("_law_number", 10)]) (g := gTup K 2 (gCons (gName 9) (gCons (gName 10) gNil)))  rfl sc_l_moved.nd (pi_list (pe_call G_l_neighbours (hr.mono (by decide)) (by rfl) g_l_neighbours k_l_neighbours b_l_neighbours .nil pass0 (pa_cons (pv 0) (pa_cons (pv 4) pa_nil)))) (blkOk_by (N := N_l_moved) (sc := defScope s_l_moved) (own := [("_law_other", 9), ("_law_number", 10)]) (by decide +kernel)) (fun _ _ _ _ _ => (pg_tup (n := 2) rfl (pgs_cons (pg_name (i := 9) sc_l_moved.nd rfl (.inl rfl) (.inr rfl)) (pgs_cons (pg_name (i := 10) sc_l_moved.nd rfl (.inl rfl) (.inr rfl)) pgs_nil)))) (fun _ _ _ _ _ => (pts_one (pt_cmpR op_eq (pv 9) (pv 5) (nomark _)))) (fun _ _ _ _ _ => (pv 10))) pe_int (fun _ _ => rfl)))
    (pss_cons (ps_if (pt_cmpR op_eq (pe_ix ix_tup (pv 7) (pv 8) (fun _ _ => rfl)) (pv 3) (nomark _)) (pss_one (ps_ret (pe_lst (pa_cons pe_str (pa_cons (pv 1) pa_nil))))) pss_nil)
    (pss_cons (ps_set (i := 11) sc_l_moved.nd rfl (.inl rfl) (pe_op op_catA (pe_op op_catA (pe_slice sl_tup (pv 6) po_none (po_some (pv 3))) (pe_tup (pa_cons (pv 5) pa_nil))) (pe_slice sl_tup (pv 6) (po_some (pe_op op_add (pv 3) pe_int)) po_none)))
    (pss_one (ps_ret (pe_lst (pa_cons pe_str (pa_cons (pe_tup (pa_cons (pv 11) (pa_cons (pe_op op_catA (pe_op op_catA (pe_slice sl_tup (pv 7) po_none (po_some (pv 8))) (pe_tup (pa_cons (pv 3) pa_nil))) (pe_slice sl_tup (pv 7) (po_some (pe_op op_add (pv 8) pe_int)) po_none)) pa_nil))) pa_nil))))))))))), ?_⟩
  obtain ⟨v, hv⟩ : ∃ v, S.1[m.1]? = some v := get_of rfl v1
  have hd : d < S.2.length := by rw [ok.doors]; exact joins_lt j
  obtain ⟨bd, hbd⟩ : ∃ bd, S.2[d]? = some bd := get_of rfl hd
  have ed := dix_is tree j
  refine ⟨_, rfl, _, _, rfl, SqT.of ht, rfl, _, _, rfl, _, _, rfl, _, _, rfl, rfl, ?_⟩
  refine ⟨_, rfl, _, _, rfl, h1, rfl, _, _, rfl, _, _, rfl, rfl, ?_⟩
  refine ⟨_, rfl, _, rfl, r, _, _, _, rfl, rfl, h2, nv_at hv, _, rfl, rfl, _, rfl, ?_⟩
  by_cases cv : v = m.2.1
  case neg =>
    rw [decide_eq_false (show ¬ V.int (v : Int) = V.int (m.2.1 : Int) from fun z => cv (by have := V.int.inj z; omega))]
    have hw : why ds S m = some "away" := by
      unfold why
      rw [if_pos (by rw [getD_of hv]; exact cv)]
    exact iteT ⟨_, rfl, by show 2 ≤ sizeLine; decide, fun q nq => qw "away" hw _ q (Same.upd nq) upd_same⟩
  rw [decide_eq_true (show V.int (v : Int) = V.int (m.2.1 : Int) by rw [cv])]
  refine iteF ?_
  refine ⟨_, rfl, _, rfl, a, ds, n, m.2.1, rfl, hH, tree, hn, fun H1 q1 pl s1 nq1 ⟨ts, g1, g2, g3⟩ mem nod len => ?_⟩
  refine ⟨q1, rfl, ⟨_, SqL.of g1⟩, fun pd npd => ?_⟩
  refine lc_it (walk_list (K := K) (a := q1) (xs := ts.map V.ref)) (fun i H2 => ∃ acc : List Nat, Same H1 H2 ∧ H2 pd = some (.lst (nv acc)) ∧ acc.length ≤ i ∧ (∀ x ∈ acc, x = d) ∧ ∀ i' < i, pl[i']? = some (m.2.2, d) → d ∈ acc)
    ⟨[], Same.upd npd, upd_same, Nat.zero_le _, fun x hx => (List.not_mem_nil hx).elim, fun i' h => by omega⟩ (fun i H2 _ ⟨_, sm, _⟩ => SqL.of (sm _ _ g1)) ?_ ?_
  · rintro i x H2 H3 hi ⟨acc, sm, hp, hl, al, cm⟩ ⟨rfl, ex⟩
    have hi' : i < pl.length := by
      rw [List.length_map, g2] at hi
      exact hi
    obtain ⟨t1, ht1⟩ : ∃ t1, ts[i]? = some t1 := get_of g2 hi'
    obtain ⟨e, he⟩ : ∃ e, pl[i]? = some e := get_of rfl hi'
    have ex' : V.ref t1 = x := by
      have ex : (ts.map V.ref)[i]? = some x := ex
      rw [List.getElem?_map, ht1] at ex
      exact Option.some.inj ex
    subst ex'
    refine ⟨t1, _, rfl, SqT.of (sm _ _ (g3 i t1 e ht1 he)), rfl, _, _, rfl, _, _, rfl, rfl, rfl, ?_⟩
    refine ⟨_, rfl, _, rfl, rfl, _, rfl, ?_⟩
    have je : Joins ds e.2 m.2.1 e.1 := (mem e.1 e.2).mp (List.mem_of_getElem? he)
    by_cases ce : e.1 = m.2.2
    · rw [decide_eq_true (show V.int (e.1 : Int) = V.int (m.2.2 : Int) by rw [ce])]
      have e2d : e.2 = d := tree.one_door (ce ▸ je) j
      refine iteT ⟨_, rfl, _, hp, by rw [nv_len]; exact small1000 (by omega), acc ++ [e.2], sm.at npd, by rw [upd_same, nv_snoc], by simp; omega, fun x hx => ?_, fun i' h he' => ?_⟩
      · rcases List.mem_append.mp hx with hx | hx
        · exact al x hx
        · rw [List.mem_singleton] at hx
          rw [hx]
          exact e2d
      · rw [e2d]
        simp
    · rw [decide_eq_false (show ¬ V.int (e.1 : Int) = V.int (m.2.2 : Int) from fun z => ce (by have := V.int.inj z; omega))]
      refine iteF ⟨acc, sm, hp, by omega, al, fun i' h he' => ?_⟩
      by_cases c : i' = i
      · subst c
        rw [he] at he'
        cases he'
        exact absurd rfl ce
      · exact cm i' (by omega) he'
  · rintro H2 ⟨acc, sm, hp, hl, al, cm⟩
    have dm : d ∈ acc := by
      have hm := (mem m.2.2 d).mpr j
      obtain ⟨i, hi⟩ := List.mem_iff_getElem?.mp hm
      refine cm i ?_ hi
      rw [List.length_map, g2]
      exact get_lt hi
    obtain ⟨x0, hx0⟩ : ∃ x0, acc[0]? = some x0 := by
      cases acc with
      | nil => cases dm
      | cons y r => exact ⟨y, rfl⟩
    have ex0 : x0 = d := al x0 (List.mem_of_getElem? hx0)
    subst ex0
    have s2 := s1.trans sm
    refine ⟨pd, _, _, _, rfl, rfl, SqL.of hp, nv_at hx0, ?_⟩
    refine ⟨_, rfl, _, rfl, b, _, _, _, rfl, rfl, s2.tup h3, nv_at hbd, _, rfl, rfl, _, rfl, ?_⟩
    by_cases cb : bd = m.1
    · rw [decide_eq_true (show V.int (bd : Int) = V.int (m.1 : Int) by rw [cb])]
      have hw : why ds S m = some "barred" := by
        unfold why
        rw [if_neg (by rw [getD_of hv, cv]; simp), ed, if_pos (by rw [getD_of hbd, cb])]
      exact iteT ⟨_, rfl, by show 2 ≤ sizeLine; decide, fun q nq => qw "barred" hw _ q (s2.trans (Same.upd nq)) upd_same⟩
    · rw [decide_eq_false (show ¬ V.int (bd : Int) = V.int (m.1 : Int) from fun z => cb (by have := V.int.inj z; omega))]
      have hw : why ds S m = none := by
        unfold why
        rw [if_neg (by rw [getD_of hv, cv]; simp), ed, if_neg (by rw [getD_of hbd]; exact cb)]
      refine iteF ?_
      have few := ok.few
      have sz4 : (4 : Nat) + 1000 ≤ sizeLine := Nat.le_of_lt (small3k (by decide))
      obtain ⟨c1, c2⟩ := cut_to v1
      obtain ⟨c3, c4⟩ := cut_from v1
      refine ⟨_, rfl, _, rfl, _, rfl, r, _, rfl, s2.tup h2, c2, fun p1 np1 => ?_⟩
      rw [c1]
      have sa := s2.trans (Same.upd (o := .tup (nv (S.1.take m.1))) np1)
      refine ⟨_, rfl, by show 1 ≤ sizeLine; decide, fun p2 np2 => ?_⟩
      have sb := sa.trans (Same.upd (o := .tup [.int (m.2.2 : Int)]) np2)
      have hp1 : (upd (upd H2 p1 (.tup (nv (S.1.take m.1)))) p2 (.tup [.int (m.2.2 : Int)])) p1 = some (.tup (nv (S.1.take m.1))) := by rw [upd_ne (ne_of_none upd_same np2), upd_same]
      refine catA_of (SqT.of hp1) (SqT.of upd_same) (by rw [nv_len, List.length_take, List.length_singleton]; omega) fun H4 p3 s4 h4 => ?_
      have sc := sb.trans s4
      refine ⟨_, rfl, _, rfl, _, _, rfl, rfl, _, rfl, r, _, rfl, sc.tup h2, c4, fun p4 np4 => ?_⟩
      rw [c3]
      have s5 := Same.upd (o := .tup (nv (S.1.drop (m.1 + 1)))) np4
      refine catA_of (s5.tup h4) (SqT.of upd_same) (by rw [List.length_append, nv_len, List.length_take, List.length_singleton, nv_len, List.length_drop]; omega) fun H6 p5 s6 h6 => ?_
      rw [nv_cut _ _ _ v1] at h6
      have sd := (sc.trans s5).trans s6
      obtain ⟨c5, c6⟩ := cut_to hd
      obtain ⟨c7, c8⟩ := cut_from hd
      have bl := ok.doors
      refine ⟨_, rfl, _, rfl, _, rfl, _, rfl, b, _, rfl, sd.tup h3, c6, fun p6 np6 => ?_⟩
      rw [c5]
      have se := sd.trans (Same.upd (o := .tup (nv (S.2.take x0))) np6)
      have h6e := (Same.upd (o := .tup (nv (S.2.take x0))) np6).tup h6
      refine ⟨_, rfl, by show 1 ≤ sizeLine; decide, fun p7 np7 => ?_⟩
      have sf := se.trans (Same.upd (o := .tup [.int (m.1 : Int)]) np7)
      have h6f := (Same.upd (o := .tup [.int (m.1 : Int)]) np7).tup h6e
      have hp6 : (upd (upd H6 p6 (.tup (nv (S.2.take x0)))) p7 (.tup [.int (m.1 : Int)])) p6 = some (.tup (nv (S.2.take x0))) := by rw [upd_ne (ne_of_none upd_same np7), upd_same]
      refine catA_of (SqT.of hp6) (SqT.of upd_same) (by rw [nv_len, List.length_take, List.length_singleton]; omega) fun H8 p8 s8 h8 => ?_
      have sg := sf.trans s8
      have h6g := s8.tup h6f
      refine ⟨_, rfl, _, rfl, _, _, rfl, rfl, _, rfl, b, _, rfl, sg.tup h3, c8, fun p9 np9 => ?_⟩
      rw [c7]
      have s9 := Same.upd (o := .tup (nv (S.2.drop (x0 + 1)))) np9
      refine catA_of (s9.tup h8) (SqT.of upd_same) (by rw [List.length_append, nv_len, List.length_take, List.length_singleton, nv_len, List.length_drop]; omega) fun H10 p10 s10 h10 => ?_
      rw [nv_cut _ _ _ hd] at h10
      have sh := (sg.trans s9).trans s10
      have h6h := s10.tup (s9.tup h6g)
      refine ⟨by show 2 ≤ sizeLine; decide, fun p11 np11 => ?_⟩
      have s11 := Same.upd (o := .tup [.ref p5, .ref p10]) np11
      refine ⟨by show 2 ≤ sizeLine; decide, fun p12 np12 => ?_⟩
      have s12 := Same.upd (o := .lst [.str "done", .ref p11]) np12
      refine qn hw _ p12 p11 ((sh.trans s11).trans s12) upd_same ⟨p5, p10, SqT.of (s12 _ _ upd_same), s12.tup (s11.tup h6h), s12.tup (s11.tup ?_)⟩
      show SqT K H10 p10 (nv (S.2.set (dix ds m.2.1 m.2.2) m.1))
      rw [ed]
      exact h10
end
end K5

namespace K5
open PySem PySem.Spec PyProof.Rows L2
/-- the steps found: all of the people ahead of k, and of person k (in room v) those by the first i neighbours -/
structure SI (ds : List (Nat × Nat)) (S : S2) (k v : Nat) (pl : List (Nat × Nat)) (i : Nat) (l : List Mv) : Prop where
  mem : ∀ m, m ∈ l ↔ (m.1 < k ∧ Can ds S m) ∨ (m.1 = k ∧ m.2.1 = v ∧ ∃ d, (m.2.2, d) ∈ pl.take i ∧ S.2[d]? ≠ some k)
  nd : l.Nodup
  len : l.length ≤ ds.length * k + i
structure SO (ds : List (Nat × Nat)) (S : S2) (k : Nat) (l : List Mv) : Prop where
  mem : ∀ m, m ∈ l ↔ m.1 < k ∧ Can ds S m
  nd : l.Nodup
  len : l.length ≤ ds.length * k
theorem take_succ_mem {α : Type} {l : List α} {i : Nat} {x y : α} (h : l[i]? = some x) : y ∈ l.take (i + 1) ↔ y ∈ l.take i ∨ y = x := by
  rw [List.take_succ, h, List.mem_append]
  simp
theorem not_mem_take {α : Type} {l : List α} {i : Nat} {x : α} (nd : l.Nodup) (h : l[i]? = some x) : x ∉ l.take i := by
  intro hm
  obtain ⟨j, hj⟩ := List.mem_iff_getElem?.mp hm
  rw [List.getElem?_take] at hj
  split at hj
  · rename_i hji
    have h1 := get_lt hj
    have h2 := get_lt h
    rw [List.getElem?_eq_getElem h1] at hj
    rw [List.getElem?_eq_getElem h2] at h
    have e := Option.some.inj (hj.trans h.symm)
    have := (List.getElem_inj nd).mp e
    omega
  · cases hj
theorem SO.start {ds S k v l pl} (h : SO ds S k l) : SI ds S k v pl 0 l := by
  refine ⟨fun m => ?_, h.nd, h.len⟩
  rw [h.mem m]
  simp
theorem SI.add {n ds S k v pl i l y d} (T : Tree n ds) (h : SI ds S k v pl i l) (mem : ∀ y d, (y, d) ∈ pl ↔ Joins ds d v y) (nd : pl.Nodup) (hi : pl[i]? = some (y, d)) (hb : S.2[d]? ≠ some k) : SI ds S k v pl (i + 1) (l ++ [(k, v, y)]) := by
  have jy := (mem y d).mp (List.mem_of_getElem? hi)
  refine ⟨fun m => ?_, ?_, by rw [List.length_append, List.length_singleton]; have := h.len; omega⟩
  · rw [List.mem_append, List.mem_singleton, h.mem m]
    constructor
    · rintro ((q | ⟨q1, q2, c, q3, q4⟩) | rfl)
      · exact .inl q
      · exact .inr ⟨q1, q2, c, (take_succ_mem hi).mpr (.inl q3), q4⟩
      · exact .inr ⟨rfl, rfl, d, (take_succ_mem hi).mpr (.inr rfl), hb⟩
    · rintro (q | ⟨q1, q2, c, q3, q4⟩)
      · exact .inl (.inl q)
      · rcases (take_succ_mem hi).mp q3 with q | q
        · exact .inl (.inr ⟨q1, q2, c, q, q4⟩)
        · obtain ⟨a, b, z⟩ := m
          simp only at q1 q2 q
          cases q
          rw [q1, q2]
          exact .inr rfl
  · refine List.nodup_append.mpr ⟨h.nd, by simp, fun a ha b hb' => ?_⟩
    rintro rfl
    rw [List.mem_singleton] at hb'
    subst hb'
    rcases (h.mem _).mp ha with ⟨q, _⟩ | ⟨_, _, c, q, _⟩
    · exact Nat.lt_irrefl _ q
    · have jc := (mem y c).mp (List.mem_of_mem_take q)
      have e := T.one_door jc jy
      subst e
      exact not_mem_take nd hi q
theorem SI.skip {ds S k v pl i l y d} (h : SI ds S k v pl i l) (hi : pl[i]? = some (y, d)) (hb : S.2[d]? = some k) : SI ds S k v pl (i + 1) l := by
  refine ⟨fun m => ?_, h.nd, by have := h.len; omega⟩
  rw [h.mem m]
  constructor
  · rintro (q | ⟨q1, q2, c, q3, q4⟩)
    · exact .inl q
    · exact .inr ⟨q1, q2, c, (take_succ_mem hi).mpr (.inl q3), q4⟩
  · rintro (q | ⟨q1, q2, c, q3, q4⟩)
    · exact .inl q
    · rcases (take_succ_mem hi).mp q3 with q | q
      · exact .inr ⟨q1, q2, c, q, q4⟩
      · cases q
        exact absurd hb q4
theorem SI.done {ds S k v pl l} (h : SI ds S k v pl pl.length l) (mem : ∀ y d, (y, d) ∈ pl ↔ Joins ds d v y) (hv : S.1[k]? = some v) (hl : pl.length ≤ ds.length) : SO ds S (k + 1) l := by
  refine ⟨fun m => ?_, h.nd, ?_⟩
  · rw [h.mem m, List.take_length]
    constructor
    · rintro (⟨q1, q2⟩ | ⟨q1, q2, c, q3, q4⟩)
      · exact ⟨by omega, q2⟩
      · refine ⟨by omega, ?_, ?_, c, ?_, ?_⟩
        · rw [q1]; exact get_lt hv
        · rw [q1, q2]; exact hv
        · rw [q2]; exact (mem _ _).mp q3
        · rw [q1]; exact q4
    · rintro ⟨q1, q2⟩
      by_cases c : m.1 = k
      · obtain ⟨_, r2, d, r3, r4⟩ := q2
        rw [c, hv] at r2
        have e := Option.some.inj r2
        refine .inr ⟨c, e.symm, d, (mem _ _).mpr (by rw [e]; exact r3), by rw [c] at r4; exact r4⟩
      · exact .inl ⟨by omega, q2⟩
  · have := h.len
    rw [Nat.mul_succ]
    omega
/-- each move by a door that there is -/
def spEvery (K : PySem.W.Frag) : Sp := fun vs H Q _ => ∃ (a : Addr) (p n : Nat) (ds : List (Nat × Nat)), vs = [.ref a, .int (p : Int)] ∧ HouseAt K H a ds ∧ Tree n ds ∧ n ≤ 8 ∧ p ≤ 4 ∧
  ∀ (H' : Hp) (q : Addr) (l : List Mv), Same H H' → H q = none → TrisAt H' q l → (∀ m ∈ l, VM ds p m) → l.length ≤ 56 → Q (.ref q) H'
section
variable {P : Program} {w : World} {K : PySem.W.Frag}
      {mg : Str → Option Value} {base : Heap}
theorem ok_steps (T : Bl mg) (D : Def K mg "_law_steps" s_l_steps) (C_l_neighbours : Cal P w K mg base "_law_neighbours" ["_law_doors", "_law_place"] 1 (spNeigh K)) : Cal P w K mg base "_law_steps" ["_law_doors", "_law_position"] 2 (spPoss K) := by
  refine D.ok sc_l_steps (fun _ _ _ _ _ _ us hl => match us, hl with | [_, _], _ => rfl) (fun vs H Q E h => ?_) (fun f cdv A outer s H vs Q E hr h => ?_)
  · obtain ⟨a, s, ds, n, S, rfl, _⟩ := h
    rfl
  obtain ⟨a, s, ds, n, S, rfl, hH, tree, hn, st, ok, q⟩ := h
  obtain ⟨r, b, h1, h2, h3⟩ := id st
  have hdn := tree.len
  have few := ok.few
  obtain ⟨f_l_neighbours, fd_l_neighbours, g_l_neighbours, k_l_neighbours, b_l_neighbours, G_l_neighbours⟩ := C_l_neighbours
  refine ⟨_, (pss_cons (ps_set (i := 2) sc_l_steps.nd rfl (.inl rfl) (pe_lst pa_nil))
    (pss_cons (ps_for PassesOwn.never rfl (pi_enumT (by rfl) T.enumerate (pa_cons (pe_ix ix_tup (pv 1) pe_int (fun _ _ => rfl)) pa_nil)) (pg_tup (n := 2) rfl (pgs_cons (pg_name (i := 3) sc_l_steps.nd rfl (.inl rfl)) (pgs_cons (pg_name (i := 4) sc_l_steps.nd rfl (.inl rfl)) pgs_nil)))
    (pss_one (ps_for PassesOwn.never rfl (pi_list (pe_call G_l_neighbours (hr.mono (by decide)) (by rfl) g_l_neighbours k_l_neighbours b_l_neighbours .nil pass0 (pa_cons (pv 0) (pa_cons (pv 4) pa_nil)))) (pg_tup (n := 2) rfl (pgs_cons (pg_name (i := 5) sc_l_steps.nd rfl (.inl rfl)) (pgs_cons (pg_name (i := 6) sc_l_steps.nd rfl (.inl rfl)) pgs_nil)))
    (pss_one (ps_if (pt_cmpR op_ne (pe_ix ix_tup (pe_ix ix_tup (pv 1) pe_int (fun _ _ => rfl)) (pv 6) (fun _ _ => rfl)) (pv 3) (nomark _)) (pss_one (ps_expr (pe_bm PySem.F.plainAttrs_list PySem.F.slot_list_append PySem.F.type_list_append mt_append (pv 2) (pa_cons (pe_tup (pa_cons (pv 3) (pa_cons (pv 4) (pa_cons (pv 5) pa_nil)))) pa_nil)))) pss_nil)))))
    (pss_one (ps_ret (pe_callB (cr_sortT (d := 3) (B := 64) (by decide)) (by rfl) T.sorted (by decide +kernel) (pa_cons (pv 2) pa_nil)))))), ?_⟩
  refine ⟨Nat.zero_le _, fun p np => ?_⟩
  have sp1 := Same.upd (o := .lst []) np
  refine ⟨_, rfl, s, _, _, _, rfl, rfl, sp1.tup h1, atI_nat (j := 0) rfl, r, _, rfl, sp1.tup h2, ?_⟩
  refine for_it (walk_enumT (K := K) (a := r) (xs := nv S.1)) (fun k σ H2 => ∃ l y3 y4 y5 y6, σ = [some (.ref a), some (.ref s), some (.ref p), y3, y4, y5, y6] ∧ Same H H2 ∧ TrisAt H2 p l ∧ SO ds S k l)
    ⟨[], _, _, _, _, rfl, sp1, ⟨[], upd_same, TL.nil⟩, ⟨fun m => by simp, List.nodup_nil, Nat.zero_le _⟩⟩ (fun i σ H2 _ ⟨_, _, _, _, _, _, sm, _⟩ => sm.tup h2) ?_ ?_
  · rintro k x σ H2 H3 hk ⟨l, y3, y4, y5, y6, rfl, sm, tr, so⟩ ⟨t, x1, x2, rfl, nt, rfl, ex1, ex2⟩
    cases ex1
    obtain ⟨v, hv, rfl⟩ := nv_some ex2
    have kP := get_lt hv
    have smt : Same H2 (upd H2 t (.tup [.int (k : Nat), .int (v : Int)])) := Same.upd nt
    have sm4 := sm.trans smt
    have tr4 := tr.same smt
    refine ⟨t, _, rfl, SqT.of upd_same, rfl, _, _, rfl, _, _, rfl, rfl, ?_⟩
    generalize upd H2 t (.tup [.int (k : Nat), .int (v : Int)]) = H4 at smt sm4 tr4
    refine ⟨_, rfl, _, rfl, a, ds, n, v, rfl, hH.same sm4, tree, by omega, fun H5 q1 pl s5 nq1 ⟨ts1, g1, g2, g3⟩ mem nod len => ?_⟩
    have sm5 := sm4.trans s5
    have tr5 := tr4.same s5
    refine ⟨q1, rfl, ⟨_, SqL.of g1⟩, ?_⟩
    obtain ⟨ts0, f0, _⟩ := id tr4
    obtain ⟨ts5, f5, _⟩ := id tr5
    have npq : q1 ≠ p := (ne_of_none f0 nq1).symm
    refine for_it (walk_list (K := K) (a := q1) (xs := ts1.map V.ref)) (fun i σ H6 => ∃ l y5 y6, σ = [some (.ref a), some (.ref s), some (.ref p), some (.int (k : Int)), some (.int (v : Int)), y5, y6] ∧ But p H5 H6 ∧ Same H H6 ∧ TrisAt H6 p l ∧ SI ds S k v pl i l)
      ⟨l, _, _, rfl, But.refl _ _, sm5, tr5, so.start⟩ (fun i σ H6 _ ⟨_, _, _, _, bt, _⟩ => SqL.of (bt _ _ npq g1)) ?_ ?_
    · rintro i x σ H6 H7 hi ⟨l, y5, y6, rfl, bt, sm6, ⟨ts, f1, f2⟩, si⟩ ⟨rfl, ex⟩
      have hi' : i < pl.length := by
        rw [List.length_map, g2] at hi
        exact hi
      obtain ⟨t1, ht1⟩ : ∃ t1, ts1[i]? = some t1 := get_of g2 hi'
      obtain ⟨e, he⟩ : ∃ e, pl[i]? = some e := get_of rfl hi'
      have ex' : V.ref t1 = x := by
        have ex : (ts1.map V.ref)[i]? = some x := ex
        rw [List.getElem?_map, ht1] at ex
        exact Option.some.inj ex
      subst ex'
      have hte := g3 i t1 e ht1 he
      have hte6 := bt _ _ (ne_lt f5 hte) hte
      have je : Joins ds e.2 v e.1 := (mem e.1 e.2).mp (List.mem_of_getElem? he)
      obtain ⟨bk, hbk⟩ : ∃ bk, S.2[e.2]? = some bk := get_of ok.doors (joins_lt je)
      refine ⟨t1, _, rfl, SqT.of hte6, rfl, _, _, rfl, _, _, rfl, rfl, ?_⟩
      refine ⟨_, rfl, s, _, _, _, rfl, rfl, sm6.tup h1, atI_nat (j := 1) rfl, _, rfl, b, _, _, _, rfl, rfl, sm6.tup h3, nv_at hbk, _, rfl, rfl, _, rfl, ?_⟩
      have ll := si.len
      have kb : ds.length * k ≤ ds.length * 3 := Nat.mul_le_mul_left _ (by omega)
      by_cases cb : bk = k
      · rw [decide_eq_true (show V.int (bk : Int) = V.int (k : Int) by rw [cb])]
        exact iteF ⟨l, _, _, rfl, bt, sm6, ⟨ts, f1, f2⟩, si.skip he (by rw [hbk, cb])⟩
      · rw [decide_eq_false (show ¬ V.int (bk : Int) = V.int (k : Int) from fun z => cb (by have := V.int.inj z; omega))]
        refine iteT ?_
        refine ⟨_, rfl, .inl ⟨rfl, _, SqL.of f1⟩, _, rfl, _, rfl, _, rfl, by show 3 ≤ sizeLine; decide, fun t2 nt2 => ?_⟩
        have ntp : t2 ≠ p := (ne_of_none f1 nt2).symm
        refine ⟨p, _, _, rfl, rfl, by rw [upd_ne ntp.symm]; exact f1, by rw [List.length_map, f2.1]; exact small1000 (by omega), l ++ [(k, v, e.1)], _, _, rfl, (bt.trans (Same.upd nt2).but).upd _, (sm6.trans (Same.upd nt2)).at np, ⟨ts ++ [t2], by rw [upd_same, List.map_append]; rfl, ?_⟩, si.add tree mem nod he (by rw [hbk]; intro z; exact cb (Option.some.inj z))⟩
        refine TL.append ?_ (TL.one (by rw [upd_ne ntp, upd_same]; rfl))
        refine ⟨f2.1, fun i t' m' e1 e2 => ?_⟩
        have z := f2.2 i t' m' e1 e2
        rw [upd_ne (ne_lt f1 z), upd_ne (ne_of_none z nt2)]
        exact z
    · rintro σ H6 ⟨l, y5, y6, rfl, bt, sm6, tr6, si⟩
      rw [List.length_map, g2] at si
      exact ⟨l, _, _, _, _, rfl, sm6, tr6, si.done mem hv len⟩
  · rintro σ H2 ⟨l, y3, y4, y5, y6, rfl, sm, ⟨ts, g1, g2⟩, so⟩
    rw [nv_len] at so
    have ll := so.len
    have kb : ds.length * S.1.length ≤ ds.length * 4 := Nat.mul_le_mul_left _ few
    have mc : ∀ m, m ∈ l ↔ Can ds S m := fun m => (so.mem m).trans ⟨fun h => h.2, fun h => ⟨h.1, h⟩⟩
    have sms : ∀ m ∈ l, Sm m := fun m hm => ((mc m).mp hm).sm tree hn ok
    refine ⟨_, rfl, p, _, rfl, SqL.of g1, by rw [List.length_map, g2.1]; omega, fun v hv => ?_, fun ys q0 pr asc nq => ?_⟩
    · obtain ⟨t, ht, rfl⟩ := List.mem_map.mp hv
      obtain ⟨i, hi⟩ := List.mem_iff_getElem?.mp ht
      obtain ⟨m, hm⟩ : ∃ m, l[i]? = some m := get_of g2.1.symm (get_lt hi)
      exact tup_of (g2.2 i t m hi hm) (sms m (List.mem_of_getElem? hm))
    · obtain ⟨ts', l', rfl, cn, tl'⟩ := sorted_canon g2 mc sms so.nd pr asc
      exact q _ q0 l' (sm.trans (Same.upd nq)) (sm.free nq) ⟨ts', upd_same, tl'.same (Same.upd nq)⟩ cn
theorem ok_every_step (T : Bl mg) (D : Def K mg "_law_every_step" s_l_every_step) : Cal P w K mg base "_law_every_step" ["_law_doors", "_law_people"] 1 (spEvery K) := by
  refine D.ok sc_l_every_step (fun _ _ _ _ _ _ us hl => match us, hl with | [_, _], _ => rfl) (fun vs H Q E h => ?_) (fun f cdv A outer s H vs Q E hr h => ?_)
  · obtain ⟨a, p, n, ds, rfl, _⟩ := h
    rfl
  obtain ⟨a, p, n, ds, rfl, hH, tree, hn, hp, q⟩ := h
  obtain ⟨rs, hrs, hlen, hds⟩ := id hH
  have hdn := tree.len
  refine ⟨_, (pss_cons (ps_set (i := 2) sc_l_every_step.nd rfl (.inl rfl) (pe_lst pa_nil))
    (pss_cons (ps_for PassesOwn.never rfl (pi_range1 rfl T.range (pa_cons (pv 1) pa_nil)) (pg_name (i := 3) sc_l_every_step.nd rfl (.inl rfl))
    (pss_one (ps_for PassesOwn.never rfl (pi_tup (pv 0)) (pg_tup (n := 2) rfl (pgs_cons (pg_name (i := 4) sc_l_every_step.nd rfl (.inl rfl)) (pgs_cons (pg_name (i := 5) sc_l_every_step.nd rfl (.inl rfl)) pgs_nil)))
    (pss_one (ps_set (i := 2) sc_l_every_step.nd rfl (.inl rfl) (pe_op op_cat (pv 2) (pe_lst (pa_cons (pe_tup (pa_cons (pv 3) (pa_cons (pv 4) (pa_cons (pv 5) pa_nil)))) (pa_cons (pe_tup (pa_cons (pv 3) (pa_cons (pv 5) (pa_cons (pv 4) pa_nil)))) pa_nil)))))))))
    (pss_one (ps_ret (pe_callB (cr_sortT (d := 3) (B := 64) (by decide)) (by rfl) T.sorted (by decide +kernel) (pa_cons (pv 2) pa_nil)))))), ?_⟩
  refine ⟨Nat.zero_le _, fun p0 np0 => ?_⟩
  have sp1 := Same.upd (o := .lst []) np0
  refine ⟨_, rfl, (p : Int), rfl, by omega, by omega, ?_⟩
  refine for_range (lo := 0) (n := p) (fun k σ H2 => ∃ c l y3 y4 y5, σ = [some (.ref a), some (.int (p : Int)), some (.ref c), y3, y4, y5] ∧ Same H H2 ∧ H c = none ∧ TrisAt H2 c l ∧ (∀ m ∈ l, VM ds p m) ∧ l.length ≤ 14 * k)
    ⟨p0, [], _, _, _, rfl, sp1, np0, ⟨[], upd_same, TL.nil⟩, fun m hm => (List.not_mem_nil hm).elim, Nat.zero_le _⟩ ?_ ?_
  · rintro k σ H2 hk ⟨c, l, y3, y4, y5, rfl, sm, nc, tr, vm, ll⟩
    rw [Int.zero_add]
    refine ⟨_, rfl, a, rfl, ⟨_, sm.tup hrs⟩, ?_⟩
    refine for_it (walk_tup (K := K) (a := a) (xs := rs.map V.ref)) (fun i σ H3 => ∃ c l y4 y5, σ = [some (.ref a), some (.int (p : Int)), some (.ref c), some (.int (k : Int)), y4, y5] ∧ Same H H3 ∧ H c = none ∧ TrisAt H3 c l ∧ (∀ m ∈ l, VM ds p m) ∧ l.length ≤ 14 * k + 2 * i)
      ⟨c, l, _, _, rfl, sm, nc, tr, vm, ll⟩ (fun i σ H3 _ ⟨_, _, _, _, _, sm, _⟩ => sm.tup hrs) ?_ ?_
    · rintro i x σ H3 H4 hi ⟨c, l, y4, y5, rfl, sm, nc, ⟨ts, g1, g2⟩, vm, ll⟩ ⟨rfl, ex⟩
      have hi' : i < ds.length := by
        rw [List.length_map, hlen] at hi
        exact hi
      obtain ⟨e, he⟩ : ∃ e, ds[i]? = some e := get_of rfl hi'
      obtain ⟨r0, hr0⟩ : ∃ r, rs[i]? = some r := get_of hlen hi'
      have ex' : V.ref r0 = x := by
        have ex : (rs.map V.ref)[i]? = some x := ex
        rw [List.getElem?_map, hr0] at ex
        exact Option.some.inj ex
      subst ex'
      refine ⟨r0, _, rfl, sm.tup (hds i r0 e hr0 he), rfl, _, _, rfl, _, _, rfl, rfl, ?_⟩
      refine ⟨_, rfl, _, rfl, _, rfl, _, rfl, by show 3 ≤ sizeLine; decide, fun t1 nt1 => ?_⟩
      have sa := Same.upd (o := .tup (tI (k, e.1, e.2))) nt1
      refine ⟨_, rfl, _, rfl, _, rfl, by show 3 ≤ sizeLine; decide, fun t2 nt2 => ?_⟩
      have sb := sa.trans (Same.upd (o := .tup (tI (k, e.2, e.1))) nt2)
      refine ⟨by show 2 ≤ sizeLine; decide, fun pl npl => ?_⟩
      have sc := sb.trans (Same.upd (o := .lst [.ref t1, .ref t2]) npl)
      refine ⟨c, pl, _, _, rfl, rfl, sc _ _ g1, upd_same, by rw [List.length_map, g2.1]; exact Nat.le_of_lt (small1000 (by show l.length + 2 ≤ 1000; omega)), fun c' nc' => ?_⟩
      have sd := sc.trans (Same.upd (o := .lst (ts.map V.ref ++ [.ref t1, .ref t2])) nc')
      refine ⟨c', l ++ [(k, e.1, e.2), (k, e.2, e.1)], _, _, rfl, sm.trans sd, (sm.trans sc).free nc', ⟨ts ++ [t1, t2], by rw [upd_same, List.map_append]; rfl, (g2.same sd).append ?_⟩, fun m hm => ?_, by simp; omega⟩
      · refine TL.append (ts := [t1]) (l := [(k, e.1, e.2)]) (TL.one ?_) (TL.one ?_)
        · exact Same.upd nc' _ _ (Same.upd npl _ _ (Same.upd nt2 _ _ upd_same))
        · exact Same.upd nc' _ _ (Same.upd npl _ _ upd_same)
      · rcases List.mem_append.mp hm with hm | hm
        · exact vm m hm
        · simp only [List.mem_cons, List.not_mem_nil, or_false] at hm
          rcases hm with rfl | rfl
          · exact ⟨hk, i, .inl he⟩
          · exact ⟨hk, i, .inr he⟩
    · rintro σ H3 ⟨c, l, y4, y5, rfl, sm, nc, tr, vm, ll⟩
      rw [List.length_map, hlen] at ll
      exact ⟨c, l, _, _, _, rfl, sm, nc, tr, vm, by omega⟩
  · rintro σ H2 ⟨c, l, y3, y4, y5, rfl, sm, nc, ⟨ts, g1, g2⟩, vm, ll⟩
    have sms : ∀ m ∈ l, Sm m := fun m hm => by
      obtain ⟨v1, d, j⟩ := vm m hm
      obtain ⟨a1, a2, _⟩ := j.lt tree
      exact ⟨by omega, by omega, by omega⟩
    refine ⟨_, rfl, c, _, rfl, SqL.of g1, by rw [List.length_map, g2.1]; omega, fun v hv => ?_, fun ys q0 pr asc nq => ?_⟩
    · obtain ⟨t, ht, rfl⟩ := List.mem_map.mp hv
      obtain ⟨i, hi⟩ := List.mem_iff_getElem?.mp ht
      obtain ⟨m, hm⟩ : ∃ m, l[i]? = some m := get_of g2.1.symm (get_lt hi)
      exact tup_of (g2.2 i t m hi hm) (sms m (List.mem_of_getElem? hm))
    · obtain ⟨ts', l', rfl, pl, tl'⟩ := g2.perm pr
      exact q _ q0 l' (sm.trans (Same.upd nq)) (sm.free nq) ⟨ts', upd_same, tl'.same (Same.upd nq)⟩ (fun m hm => vm m (pl.mem_iff.mp hm)) (by rw [pl.length_eq]; omega)
end
end K5

namespace K5
open PySem PySem.Spec PyProof.Rows L2
theorem runs_snoc {ds : List (Nat × Nat)} {m : Mv} : ∀ (l : List Mv) (i : Nat) (S S' : S2), runs ds i S l = .inr S' → why ds S' m = none → runs ds i S (l ++ [m]) = .inr (nxt ds S' m)
  | [], i, S, S', h, hw => by
    have e : S = S' := Sum.inr.inj h
    subst e
    show runs ds i S [m] = _
    rw [runs, hw]
    rfl
  | m0 :: r, i, S, S', h, hw => by
    rw [runs] at h
    show runs ds i S (m0 :: (r ++ [m])) = _
    rw [runs]
    split at h
    · cases h
    · exact runs_snoc r _ _ _ h hw
theorem eqv_nil (l : List Mv) : PyData.eqv (dMs l) (dMs []) = decide (l = []) := by
  cases l with
  | nil => exact d_refl (dMs_shaped [])
  | cons m r =>
    rw [decide_eq_false (by simp)]
    simp only [dMs, List.map_cons, List.map_nil, PyData.eqv, PyData.eqvAll]
theorem Canon.len {l P} (c : Canon l P) : l.length ≤ 262144 := by
  have h := nodup_le 262144 (l.map fun m : Mv => m.1 * 4096 + m.2.1 * 64 + m.2.2) (List.pairwise_map.mpr (c.asc.imp fun h => by
    rw [mcode_is, mcode_is] at h
    omega)) fun x hx => by
      obtain ⟨m, hm, rfl⟩ := List.mem_map.mp hx
      obtain ⟨h1, h2, h3⟩ := c.sm m hm
      omega
  rw [List.length_map] at h
  exact h
def spRSteps (K : PySem.W.Frag) : Sp := fun vs H Q _ => ∃ (g a s : Addr) (b n most : Nat) (ds : List (Nat × Nat)) (S : S2), vs = [.ref g, .ref a, .ref s, .int (most : Int)] ∧ GenAt H g b ∧ HouseAt K H a ds ∧ Tree n ds ∧ n ≤ 15 ∧ StateAt K H s S ∧ StOk n ds S ∧ most ≤ 20 ∧ b < 2 ^ 59 ∧
  ∀ (H' : Hp) (q sl sf : Addr) (l : List Mv) (S' : S2), But g H H' → GenAt H' g (b + 100) → H' q = some (.lst [.ref sl, .ref sf]) → TrisAt H' sl l → sl ≠ g → (∀ m ∈ l, VM ds S.1.length m) → l.length ≤ most → runs ds 0 S l = .inr S' → StateAt K H' sf S' → StOk n ds S' → S'.1.length = S.1.length → Q (.ref q) H'
def spExp (K : PySem.W.Frag) : Sp := fun vs H Q _ => ∃ (a s pl : Addr) (n : Nat) (ds : List (Nat × Nat)) (S : S2) (l : List Mv), vs = [.ref a, .ref s, .ref pl] ∧ HouseAt K H a ds ∧ Tree n ds ∧ n ≤ 1000 ∧ StateAt K H s S ∧ StOk n ds S ∧ TrisAt H pl l ∧ (∀ m ∈ l, VM ds S.1.length m) ∧
  ∀ (H' : Hp) (q : Addr), Same H H' → Dp K H' (.ref q) (dO (runs ds 0 S l)) → Q (.ref q) H'
section
variable {P : Program} {w : World} {K : PySem.W.Frag}
      {mg : Str → Option Value} {base : Heap}
theorem TrisAt.but {g q : Addr} {H H' : Hp} {l : List Mv} {xs : List V} (h : TrisAt H q l) (hg : H g = some (.lst xs)) (ne : q ≠ g) (s : But g H H') : TrisAt H' q l := by
  obtain ⟨ts, h1, h2⟩ := h
  exact ⟨ts, s _ _ ne h1, h2.but hg s⟩
theorem ok_random_steps (T : Bl mg) (D : Def K mg "_law_random_steps" s_l_random_steps) (C_l_random : Cal P w K mg base "_law_random" ["_law_generator_here", "_law_bound"] 2 spRand) (C_l_steps : Cal P w K mg base "_law_steps" ["_law_doors", "_law_position"] 2 (spPoss K))
    (C_l_moved : Cal P w K mg base "_law_moved" ["_law_doors", "_law_position", "_law_step"] 2 (spMoved K)) : Cal P w K mg base "_law_random_steps" ["_law_generator_here", "_law_doors", "_law_position", "_law_most"] 3 (spRSteps K) := by
  refine D.ok sc_l_random_steps (fun _ _ _ _ _ _ us hl => match us, hl with | [_, _, _, _], _ => rfl) (fun vs H Q E h => ?_) (fun f cdv A outer s H vs Q E hr h => ?_)
  · obtain ⟨g, a, s, b, n, most, ds, S, rfl, _⟩ := h
    rfl
  obtain ⟨g, a, s, b, n, most, ds, S, rfl, hg, hH, tree, hn, st, ok, hm, hb, q⟩ := h
  have hdn := tree.len
  obtain ⟨gx, hgx⟩ := hg.lst
  obtain ⟨f_l_random, fd_l_random, g_l_random, k_l_random, b_l_random, G_l_random⟩ := C_l_random
  obtain ⟨f_l_steps, fd_l_steps, g_l_steps, k_l_steps, b_l_steps, G_l_steps⟩ := C_l_steps
  obtain ⟨f_l_moved, fd_l_moved, g_l_moved, k_l_moved, b_l_moved, G_l_moved⟩ := C_l_moved
  refine ⟨_, (pss_cons (ps_set (i := 4) sc_l_random_steps.nd rfl (.inl rfl) (pe_lst pa_nil))
    (pss_cons (ps_for PassesOwn.never rfl (pi_range1 rfl T.range (pa_cons (pe_call G_l_random (hr.mono (by decide)) (by rfl) g_l_random k_l_random b_l_random .nil pass0 (pa_cons (pv 0) (pa_cons (pe_op op_add (pv 3) pe_int) pa_nil))) pa_nil)) (pg_name (i := 5) sc_l_random_steps.nd rfl (.inl rfl))
    (pss_cons (ps_set (i := 6) sc_l_random_steps.nd rfl (.inl rfl) (pe_call G_l_steps (hr.mono (by decide)) (by rfl) g_l_steps k_l_steps b_l_steps .nil pass0 (pa_cons (pv 1) (pa_cons (pv 2) pa_nil))))
    (pss_one (ps_if (pt_cmpR (op_neD hr.units) (pv 6) (pe_lst pa_nil) (nomark _)) (pss_cons (ps_set (i := 7) sc_l_random_steps.nd rfl (.inl rfl) (pe_ix ix_list (pv 6) (pe_call G_l_random (hr.mono (by decide)) (by rfl) g_l_random k_l_random b_l_random .nil pass0 (pa_cons (pv 0) (pa_cons (pe_callB call_len_seq (by rfl) T.len PySem.boot_len (pa_cons (pv 6) pa_nil)) pa_nil))) (fun _ _ => rfl)))
    (pss_cons (ps_set (i := 2) sc_l_random_steps.nd rfl (.inl rfl) (pe_ix ix_list (pe_call G_l_moved (hr.mono (by decide)) (by rfl) g_l_moved k_l_moved b_l_moved .nil pass0 (pa_cons (pv 1) (pa_cons (pv 2) (pa_cons (pv 7) pa_nil)))) pe_int (fun _ _ => rfl)))
    (pss_one (ps_expr (pe_bm PySem.F.plainAttrs_list PySem.F.slot_list_append PySem.F.type_list_append mt_append (pv 4) (pa_cons (pv 7) pa_nil)))))) pss_nil))))
    (pss_one (ps_ret (pe_lst (pa_cons (pv 4) (pa_cons (pv 2) pa_nil))))))), ?_⟩
  refine ⟨Nat.zero_le _, fun p np => ?_⟩
  have npg : p ≠ g := hg.ne np
  have bt0 : But g H (upd H p (.lst [])) := (Same.upd np).but
  refine ⟨_, rfl, _, rfl, _, _, rfl, rfl, g, b, most + 1, rfl, hg.at npg, by omega, by omega, by omega, fun H1 cnt bt1 g1 hc => ?_⟩
  have bt01 := bt0.trans bt1
  have hp1 : H1 p = some (.lst []) := bt1 _ _ npg upd_same
  refine ⟨(cnt : Int), rfl, by omega, by omega, ?_⟩
  refine for_range (lo := 0) (n := cnt) (fun i σ H2 => ∃ l sa S' y5 y6 y7, σ = [some (.ref g), some (.ref a), some (.ref sa), some (.int (most : Int)), some (.ref p), y5, y6, y7] ∧ But g H H2 ∧ GenAt H2 g (b + 1 + i) ∧ TrisAt H2 p l ∧ StateAt K H2 sa S' ∧ StOk n ds S' ∧ S'.1.length = S.1.length ∧ runs ds 0 S l = .inr S' ∧ (∀ m ∈ l, VM ds S.1.length m) ∧ l.length ≤ i)
    ⟨[], s, S, _, _, _, rfl, bt01, g1, ⟨[], hp1, TL.nil⟩, st.but hgx bt01, ok, rfl, rfl, fun m hm => (List.not_mem_nil hm).elim, Nat.zero_le _⟩ ?_ ?_
  · rintro i σ H2 hi ⟨l, sa, S', y5, y6, y7, rfl, bt, g2, tr, st2, ok2, lk, er, vm, ll⟩
    rw [Int.zero_add]
    have hH2 := hH.but hgx bt
    refine ⟨_, rfl, _, rfl, a, sa, ds, n, S', rfl, hH2, tree, hn, st2, ok2, fun H3 q1 al s3 nq1 tra cn => ?_⟩
    have g3 := g2.same s3
    have tr3 := tr.same s3
    have st3 := st2.same s3
    have bt3 := bt.trans s3.but
    have nq1g : q1 ≠ g := g2.ne nq1
    refine ⟨_, rfl, Nat.zero_le _, fun pe npe => ?_⟩
    have s4 := Same.upd (o := .lst []) npe
    have trE : TrisAt (upd H3 pe (.lst [])) pe [] := ⟨[], upd_same, TL.nil⟩
    refine ⟨dMs al, dMs [], dp_Tris (tra.same s4), dp_Tris trE, dMs_shaped _, dMs_shaped _, _, rfl, ?_⟩
    rw [eqv_nil]
    have g4 := g3.same s4
    have tr4 := tr3.same s4
    have st4 := st3.same s4
    have tra4 := tra.same s4
    have bt4 := bt3.trans s4.but
    generalize upd H3 pe (.lst []) = H4 at g4 tr4 st4 tra4 bt4
    by_cases ca : al = []
    · rw [decide_eq_true ca]
      exact iteF ⟨l, sa, S', _, _, _, rfl, bt4, g4.mono (by omega), tr4, st4, ok2, lk, er, vm, by omega⟩
    · rw [decide_eq_false ca]
      refine iteT ?_
      have al0 : 0 < al.length := List.length_pos_iff.mpr ca
      obtain ⟨ta, f1, f2⟩ := id tra4
      have alen : al.length < 2 ^ 20 := by
        have := cn.len
        omega
      refine ⟨_, rfl, _, rfl, _, rfl, q1, _, rfl, .inl (SqL.of f1), ?_⟩
      refine ⟨g, b + 1 + i, al.length, by rw [List.length_map, f2.1]; rfl, g4, al0, by omega, by omega, fun H5 u bt5 g5 hu => ?_⟩
      obtain ⟨gx4, hgx4⟩ := g4.lst
      obtain ⟨t1, ht1⟩ : ∃ t1, ta[u]? = some t1 := get_of f2.1 hu
      obtain ⟨m, hm'⟩ : ∃ m, al[u]? = some m := get_of rfl hu
      have can : Can ds S' m := (cn.mem m).mp (List.mem_of_getElem? hm')
      have hw := can.why tree ok2
      have h5m := bt5 _ _ (ne_lt hgx4 (f2.2 u t1 m ht1 hm')) (f2.2 u t1 m ht1 hm')
      refine ⟨q1, _, _, .ref t1, rfl, rfl, SqL.of (bt5 _ _ nq1g f1), atI_nat (by rw [List.getElem?_map, ht1]; rfl), ?_⟩
      have st5 := st4.but hgx4 bt5
      have tr5 := tr4.but hgx4 npg bt5
      have bt05 := bt4.trans bt5
      refine ⟨_, rfl, _, rfl, _, rfl, a, sa, t1, n, ds, S', m, rfl, hH.but hgx bt05, tree, by omega, st5, ok2, h5m, can.vm, fun w0 hw0 => (by rw [hw] at hw0; cases hw0), fun _ H6 q2 s' s6 hq2 st6 => ?_⟩
      refine ⟨q2, _, _, .ref s', rfl, rfl, SqL.of hq2, atI_nat (j := 1) rfl, ?_⟩
      obtain ⟨tl, e1, e2⟩ := tr5.same s6
      have g6 := g5.same s6
      refine ⟨_, rfl, .inl ⟨rfl, _, SqL.of e1⟩, _, rfl, p, _, _, rfl, rfl, e1, by rw [List.length_map, e2.1]; exact small1000 (by omega), ?_⟩
      have btp : But p H6 (upd H6 p (.lst (tl.map V.ref ++ [.ref t1]))) := But.upd (But.refl _ _) _
      refine ⟨l ++ [m], s', nxt ds S' m, _, _, _, rfl, (bt05.trans s6.but).at np _, (g6.at npg).mono (by omega), ⟨tl ++ [t1], by rw [upd_same, List.map_append]; rfl, (e2.append (TL.one (s6 _ _ h5m))).but e1 btp⟩, st6.but e1 btp, ok2.nxt tree can.vm, by rw [nxt_len]; exact lk, runs_snoc l 0 S S' er hw, fun m' hm' => ?_, by simp; omega⟩
      rcases List.mem_append.mp hm' with h | h
      · exact vm m' h
      · rw [List.mem_singleton] at h
        rw [h, ← lk]
        exact can.vm
  · rintro σ H2 ⟨l, sa, S', y5, y6, y7, rfl, bt, g2, tr, st2, ok2, lk, er, vm, ll⟩
    refine ⟨_, rfl, _, rfl, by show 2 ≤ sizeLine; decide, fun q0 nq0 => ?_⟩
    have s3 := Same.upd (o := .lst [.ref p, .ref sa]) nq0
    exact q _ q0 p sa l S' (bt.trans s3.but) ((g2.same s3).mono (by omega)) upd_same (tr.same s3) npg vm (by omega) er (st2.same s3) ok2 lk
theorem ok_expected (T : Bl mg) (D : Def K mg "_law_expected" s_l_expected) (C_l_moved : Cal P w K mg base "_law_moved" ["_law_doors", "_law_position", "_law_step"] 2 (spMoved K)) : Cal P w K mg base "_law_expected" ["_law_doors", "_law_position", "_law_steps_here"] 3 (spExp K) := by
  refine D.ok sc_l_expected (fun _ _ _ _ _ _ us hl => match us, hl with | [_, _, _], _ => rfl) (fun vs H Q E h => ?_) (fun f cdv A outer s H vs Q E hr h => ?_)
  · obtain ⟨a, s, pl, n, ds, S, l, rfl, _⟩ := h
    rfl
  obtain ⟨a, s, pl, n, ds, S, l, rfl, hH, tree, hn, st, ok, ⟨ts, hts, tl⟩, vm, q⟩ := h
  obtain ⟨f_l_moved, fd_l_moved, g_l_moved, k_l_moved, b_l_moved, G_l_moved⟩ := C_l_moved
  refine ⟨_, (pss_cons (ps_for PassesOwn.never rfl (pi_enum (by rfl) T.enumerate (pa_cons (pv 2) pa_nil)) (pg_tup (n := 2) rfl (pgs_cons (pg_name (i := 3) sc_l_expected.nd rfl (.inl rfl)) (pgs_cons (pg_name (i := 4) sc_l_expected.nd rfl (.inl rfl)) pgs_nil)))
    (pss_cons (ps_asg (pe_call G_l_moved (hr.mono (by decide)) (by rfl) g_l_moved k_l_moved b_l_moved .nil pass0 (pa_cons (pv 0) (pa_cons (pv 1) (pa_cons (pv 4) pa_nil)))) (pg_unl (n := 2) rfl (pgs_cons (pg_name (i := 5) sc_l_expected.nd rfl (.inl rfl)) (pgs_cons (pg_name (i := 1) sc_l_expected.nd rfl (.inl rfl)) pgs_nil))))
    (pss_one (ps_if (pt_cmpR op_ne (pv 5) pe_str (nomark _)) (pss_one (ps_ret (pe_lst (pa_cons (pv 3) (pa_cons (pe_tup (pa_cons (pv 5) pa_nil)) pa_nil))))) pss_nil))))
    (pss_one (ps_ret (pv 1)))), ?_⟩
  refine ⟨_, rfl, pl, _, rfl, SqL.of hts, ?_⟩
  refine for_it (walk_enum (K := K) (a := pl) (xs := ts.map V.ref)) (fun k σ H6 => ∃ sk Sk y3 y4 y5, σ = [some (.ref a), some (.ref sk), some (.ref pl), y3, y4, y5] ∧ Same H H6 ∧ StateAt K H6 sk Sk ∧ StOk n ds Sk ∧ Sk.1.length = S.1.length ∧ runs ds 0 S l = runs ds k Sk (l.drop k))
    ⟨s, S, _, _, _, rfl, Same.refl _, st, ok, rfl, rfl⟩ (fun i σ H6 _ ⟨_, _, _, _, _, _, sm, _⟩ => SqL.of (sm _ _ hts)) ?_ ?_
  · rintro k x σ H6 H7 hk ⟨sk, Sk, y3, y4, y5, rfl, sm, stk, okk, lk, er⟩ ⟨t, x1, x2, rfl, nt, rfl, ex1, ex2⟩
    cases ex1
    have hk' : k < l.length := by
      rw [List.length_map, tl.1] at hk
      exact hk
    obtain ⟨t1, ht1⟩ : ∃ t1, ts[k]? = some t1 := get_of tl.1 hk'
    obtain ⟨m, hm⟩ : ∃ m, l[k]? = some m := get_of rfl hk'
    have ex2' : V.ref t1 = x2 := by
      have ex2 : (ts.map V.ref)[k]? = some x2 := ex2
      rw [List.getElem?_map, ht1] at ex2
      exact Option.some.inj ex2
    subst ex2'
    have v := vm m (List.mem_of_getElem? hm)
    rw [← lk] at v
    have smt : Same H6 (upd H6 t (.tup [.int (k : Nat), .ref t1])) := Same.upd nt
    have sm7 := sm.trans smt
    have st7 := stk.same smt
    refine ⟨t, _, rfl, SqT.of upd_same, rfl, _, _, rfl, _, _, rfl, rfl, ?_⟩
    generalize upd H6 t (.tup [.int (k : Nat), .ref t1]) = H8 at smt sm7 st7
    have rd := runs_drop (ds := ds) (S := Sk) hm
    refine ⟨_, rfl, _, rfl, _, rfl, a, sk, t1, n, ds, Sk, m, rfl, hH.same sm7, tree, hn, st7, okk, sm7 _ _ (tl.2 k t1 m ht1 hm), v, fun w0 hw H9 q1 s9 hq1 => ?_, fun hw H9 q1 s' s9 hq1 st9 => ?_⟩
    · refine ⟨q1, _, rfl, SqL.of hq1, rfl, _, _, rfl, _, _, rfl, rfl, ?_⟩
      refine ⟨_, rfl, rfl, _, rfl, ?_⟩
      rw [decide_eq_false (show ¬ V.str (Str.ofString w0) = V.str (Str.ofString "done") from fun z => by
        have z := V.str.inj z
        rcases why_word hw with rfl | rfl
        · exact absurd z (by decide +kernel)
        · exact absurd z (by decide +kernel))]
      refine iteT ⟨_, rfl, _, rfl, by show 1 ≤ sizeLine; decide, fun tt ntt => ?_⟩
      refine ⟨by show 2 ≤ sizeLine; decide, fun q2 nq2 => ?_⟩
      have sA := Same.upd (o := .tup [.str (Str.ofString w0)]) ntt
      have sB := Same.upd (o := .lst [.int (k : Int), .ref tt]) nq2
      refine q _ q2 (((sm7.trans s9).trans sA).trans sB) ?_
      rw [er, rd, hw]
      exact .lst (SqL.of upd_same) (.cons (.int _) (.cons (.tup (SqT.of (sB _ _ upd_same)) (.cons (.str _) .nil)) .nil))
    · refine ⟨q1, _, rfl, SqL.of hq1, rfl, _, _, rfl, _, _, rfl, rfl, ?_⟩
      refine ⟨_, rfl, rfl, _, rfl, ?_⟩
      rw [decide_eq_true rfl]
      refine iteF ⟨s', nxt ds Sk m, _, _, _, rfl, sm7.trans s9, st9, okk.nxt tree v, by rw [nxt_len]; exact lk, ?_⟩
      rw [er, rd, hw]
  · rintro σ H6 ⟨sk, Sk, y3, y4, y5, rfl, sm, stk, okk, lk, er⟩
    rw [List.length_map, tl.1, List.drop_length] at er
    refine ⟨_, rfl, q H6 sk sm ?_⟩
    rw [er]
    exact dp_S stk
end
end K5

namespace K5
open PySem PySem.Spec PyProof.Rows L2
def spResult (K : PySem.W.Frag) : Sp := fun vs H Q _ => ∃ (a s pl : Addr) (n : Nat) (ds : List (Nat × Nat)) (S : S2) (l : List Mv), vs = [.ref a, .ref s, .ref pl] ∧ HouseAt K H a ds ∧ Tree n ds ∧ n ≤ 1000 ∧ StateAt K H s S ∧ StOk n ds S ∧ PlanAt H pl l false ∧ (∀ m ∈ l, VM ds S.1.length m) ∧
  ∀ (H' : Hp) (q : Addr), Same H H' → Dp K H' (.ref q) (dO (runs ds 0 S l)) → Q (.ref q) H'
def dR (k : Nat) : PyData := .tuple [.str "move", .int (k : Int)]
def spReason (K : PySem.W.Frag) : Sp := fun vs H Q _ => ∃ (a s pl : Addr) (n : Nat) (ds : List (Nat × Nat)) (S : S2) (l : List Mv), vs = [.ref a, .ref s, .ref pl] ∧ HouseAt K H a ds ∧ Tree n ds ∧ n ≤ 1000 ∧ StateAt K H s S ∧ StOk n ds S ∧ PlanAt H pl l true ∧ (∀ m ∈ l, VM ds S.1.length m) ∧
  ∀ (H' : Hp) (q : Addr), Same H H' → Dp K H' (.ref q) (dR l.length) → Q (.ref q) H'
section
variable {P : Program} {w : World} {K : PySem.W.Frag}
      {mg : Str → Option Value} {base : Heap}
theorem ok_result {CI CM : Addr} (T : Bl mg) (EM : ErrOk P w K mg base "MoveBlocked" CM ["self", "index", "reason"] (spMb CM)) (noI : PySem.W.findIn K (.ref CM) "index" = some none) (xM : PySem.W.exmOne K (.ref CM) (.ref CM) = some true)
    (D : Def K mg "_law_result" s_l_result) (C_play : CalX P w K mg base "play" ["house", "state", "plan"] 8 (spPlay K CI CM)) : Cal P w K mg base "_law_result" ["_law_doors", "_law_position", "_law_steps_here"] 9 (spResult K) := by
  obtain ⟨f_mb, fd_mb, e_mb, F_mb, B_mb⟩ := EM
  refine D.ok sc_l_result (fun _ _ _ _ _ _ us hl => match us, hl with | [_, _, _], _ => rfl) (fun vs H Q E h => ?_) (fun f cdv A outer s H vs Q E hr h => ?_)
  · obtain ⟨a, s, pl, n, ds, S, l, rfl, _⟩ := h
    rfl
  obtain ⟨a, s, pl, n, ds, S, l, rfl, hH, tree, hn, st, ok, hpl, vm, q⟩ := h
  obtain ⟨f_play, fd_play, g_play, k_play, b_play, G_play⟩ := C_play
  refine ⟨_, (pss_cons (ps_set (i := 3) sc_l_result.nd rfl (.inl rfl) pe_non)
    (pss_cons (ps_set (i := 4) sc_l_result.nd rfl (.inl rfl) pe_non)
    (pss_cons (ps_try_keep (i := 5) (tw := fun W => tAsg (tCallS (spPlay K CI CM) (WE W) (tCons (tVar 0) (tCons (tVar 1) (tCons (tVar 2) tNil)))) (gName 4)) (ts := fun _ _ _ => tAsg (tVar 5) (gName 3)) (Wout := fun _ _ _ _ => False) rfl rfl rfl sc_l_result.nd rfl rfl ⟨rfl, by decide, Or.inl e_mb.g⟩ takes0 (fun W pn xe tk _ => (pss_one (ps_set (i := 4) sc_l_result.nd rfl (.inl rfl) (pe_callS G_play (hr.mono (by decide)) (by rfl) g_play k_play b_play (fun σ => passAt tk σ) (by exact (pa_cons (pv 0) (pa_cons (pv 1) (pa_cons (pv 2) pa_nil)))))))) (fun a oe cls d pn hz hf => (pss_one (ps_set (i := 3) sc_l_result.nd rfl (.inl rfl) (pv 5)))))
    (pss_cons (ps_if (pt_cmpR op_notN (pv 3) pe_non (nomark _)) (pss_one (ps_ret (pe_lst (pa_cons (pe_kf e_mb.f noI (pv 3)) (pa_cons (pe_kf e_mb.f e_mb.r (pv 3)) pa_nil))))) pss_nil)
    (pss_one (ps_ret (pv 4))))))), ?_⟩
  refine ⟨_, rfl, _, rfl, _, rfl, a, s, pl, n, ds, S, l, false, rfl, hH, tree, hn, st, ok, hpl, vm, (fun z => by cases z), fun _ S' er H' q1 sm st' => ?_, fun _ i wd er H' t d sm ht hd => ?_⟩
  · refine ⟨_, rfl, rfl, _, rfl, iteF ⟨_, rfl, q H' q1 sm ?_⟩⟩
    rw [er]
    exact dp_S st'
  · refine ⟨true, xM, (fun z => by cases z), fun _ ea nea => ?_⟩
    refine ⟨_, rfl, ?_⟩
    have nde : d ≠ ea := ne_of_none hd nea
    have sx : Same H' (upd H' ea (exk ea (.ref CM) (some d))) := Same.upd nea
    refine ⟨_, rfl, rfl, _, rfl, iteT ?_⟩
    refine ⟨_, rfl, ea, d, _, _, rfl, upd_same, sx _ _ hd, rfl, _, rfl, ea, d, _, _, rfl, upd_same, sx _ _ hd, rfl, by show 2 ≤ sizeLine; decide, fun q1 nq1 => ?_⟩
    have s2 := Same.upd (o := .lst [.int (i : Int), .ref t]) nq1
    refine q _ q1 ((sm.trans sx).trans s2) ?_
    rw [er]
    exact .lst (SqL.of upd_same) (.cons (.int _) (.cons (.tup (SqT.of (s2 _ _ (sx _ _ ht))) (.cons (.str _) .nil)) .nil))
theorem ok_reason {CI CM CL : Addr} (T : Bl mg) (EI : ErrOk P w K mg base "InvalidPlan" CI ["self", "reason"] (spIp CI)) (gL : mg "LastThroughError" = some (.ref CL)) (xI : PySem.W.exmOne K (.ref CI) (.ref CL) = some true)
    (D : Def K mg "_law_reason" s_l_reason) (C_play : CalX P w K mg base "play" ["house", "state", "plan"] 8 (spPlay K CI CM)) : Cal P w K mg base "_law_reason" ["_law_doors", "_law_position", "_law_steps_here"] 9 (spReason K) := by
  obtain ⟨f_ip, fd_ip, e_ip, F_ip, B_ip⟩ := EI
  refine D.ok sc_l_reason (fun _ _ _ _ _ _ us hl => match us, hl with | [_, _, _], _ => rfl) (fun vs H Q E h => ?_) (fun f cdv A outer s H vs Q E hr h => ?_)
  · obtain ⟨a, s, pl, n, ds, S, l, rfl, _⟩ := h
    rfl
  obtain ⟨a, s, pl, n, ds, S, l, rfl, hH, tree, hn, st, ok, hpl, vm, q⟩ := h
  obtain ⟨f_play, fd_play, g_play, k_play, b_play, G_play⟩ := C_play
  refine ⟨_, (pss_cons (ps_set (i := 3) sc_l_reason.nd rfl (.inl rfl) pe_non)
    (pss_cons (ps_try_keep (i := 4) (tw := fun W => tDrop (tCallS (spPlay K CI CM) (WE W) (tCons (tVar 0) (tCons (tVar 1) (tCons (tVar 2) tNil))))) (ts := fun _ _ _ => tAsg (tVar 4) (gName 3)) (Wout := fun _ _ _ _ => False) rfl rfl rfl sc_l_reason.nd rfl rfl ⟨rfl, by decide, Or.inl gL⟩ takes0 (fun W pn xe tk _ => (pss_one (ps_expr (pe_callS G_play (hr.mono (by decide)) (by rfl) g_play k_play b_play (fun σ => passAt tk σ) (by exact (pa_cons (pv 0) (pa_cons (pv 1) (pa_cons (pv 2) pa_nil)))))))) (fun a oe cls d pn hz hf => (pss_one (ps_set (i := 3) sc_l_reason.nd rfl (.inl rfl) (pv 4)))))
    (pss_one (ps_ret (pe_ifExp (pt_val (pe_callB (call_isK (C := CI)) (by rfl) T.isinstance (by decide +kernel) (pa_cons (pv 3) (pa_cons (pe_glob (v := .ref CI) rfl e_ip.g rfl) pa_nil)))) (pe_kf e_ip.f e_ip.r (pv 3)) pe_non))))), ?_⟩
  refine ⟨_, rfl, _, rfl, _, rfl, a, s, pl, n, ds, S, l, true, rfl, hH, tree, hn, st, ok, hpl, vm, fun _ H' t d sm ht hd => ?_, (fun z => by cases z), (fun z => by cases z)⟩
  refine ⟨true, xI, (fun z => by cases z), fun _ ea nea => ?_⟩
  refine ⟨_, rfl, ?_⟩
  have sx : Same H' (upd H' ea (exk ea (.ref CI) (some d))) := Same.upd nea
  refine ⟨_, rfl, ea, some d, rfl, upd_same, _, rfl, iteT ?_⟩
  refine ⟨_, rfl, ea, d, _, _, rfl, upd_same, sx _ _ hd, rfl, q _ t (sm.trans sx) ?_⟩
  exact .tup (SqT.of (sx _ _ ht)) (.cons (.str _) (.cons (.int _) .nil))
end
end K5

namespace K5
open PySem PySem.Spec PyProof.Rows L2
mutual
theorem dp_same {K : PySem.W.Frag} {H H' : Hp} (s : Same H H') : ∀ (d : PyData) (v : V), Dp K H v d → Dp K H' v d
  | .none, _, h => by cases h; exact .non
  | .bool _, _, h => by cases h; exact .bl _
  | .int _, _, h => by cases h; exact .int _
  | .str _, _, h => by cases h; exact .str _
  | .list ds, _, h => by
    cases h with
    | lst h1 h2 => exact .lst (s.seq h1) (dps_same s ds _ h2)
  | .tuple ds, _, h => by
    cases h with
    | tup h1 h2 => exact .tup (s.tup h1) (dps_same s ds _ h2)
  | .dict _, _, h => by cases h
theorem dps_same {K : PySem.W.Frag} {H H' : Hp} (s : Same H H') : ∀ (ds : List PyData) (vs : List V), DpAll K H vs ds → DpAll K H' vs ds
  | [], _, h => by cases h; exact .nil
  | d :: ds, _, h => by
    cases h with
    | cons h1 h2 => exact .cons (dp_same s d _ h1) (dps_same s ds _ h2)
end
theorem dR_shaped (k : Nat) : SeqAt.shaped (dR k) = true := by
  have hw : PyData.strOk (Str.ofString "move") = true := by decide +kernel
  refine shaped_mk ?_ ?_
  · simp only [dR, PyData.canLay0, PyData.canLayAll0, hw, Bool.and_true]
  · simp only [dR, PyData.depth, PyData.depthAll]
    omega
theorem cutL_to {xs : List V} {k : Nat} (h : k ≤ xs.length) : cutV xs none (some (k : Int)) = xs.take k := by
  unfold cutV
  rw [HT.sIx_none, HT.sIx_nat, Nat.min_eq_left h, List.drop_zero, Nat.sub_zero]
theorem cutL_from {xs : List V} {k : Nat} (h : k ≤ xs.length) : cutV xs (some (k : Int)) none = xs.drop k := by
  unfold cutV
  rw [HT.sIx_none, HT.sIx_nat, Nat.min_eq_left h, List.take_of_length_le]
  rw [List.length_drop]
  exact Nat.le_refl _
def spRight (K : PySem.W.Frag) : Sp := fun vs H Q _ => ∃ (g a s : Addr) (b n : Nat) (ds : List (Nat × Nat)) (S : S2), vs = [.ref g, .ref a, .ref s] ∧ GenAt H g b ∧ HouseAt K H a ds ∧ Tree n ds ∧ n ≤ 8 ∧ StateAt K H s S ∧ StOk n ds S ∧ b < 2 ^ 58 ∧
  ∀ H', But g H H' → GenAt H' g (b + 200) → Q (.bl true) H'
section
variable {P : Program} {w : World} {K : PySem.W.Frag}
      {mg : Str → Option Value} {base : Heap}
theorem ok_right {CI CM : Addr} (T : Bl mg) (D : Def K mg "_law_right" s_l_right) (C_l_random_steps : Cal P w K mg base "_law_random_steps" ["_law_generator_here", "_law_doors", "_law_position", "_law_most"] 3 (spRSteps K)) (C_play : CalX P w K mg base "play" ["house", "state", "plan"] 8 (spPlay K CI CM))
    (C_l_every_step : Cal P w K mg base "_law_every_step" ["_law_doors", "_law_people"] 1 (spEvery K)) (C_l_random : Cal P w K mg base "_law_random" ["_law_generator_here", "_law_bound"] 2 spRand) (C_l_result : Cal P w K mg base "_law_result" ["_law_doors", "_law_position", "_law_steps_here"] 9 (spResult K))
    (C_l_expected : Cal P w K mg base "_law_expected" ["_law_doors", "_law_position", "_law_steps_here"] 3 (spExp K)) (C_l_reason : Cal P w K mg base "_law_reason" ["_law_doors", "_law_position", "_law_steps_here"] 9 (spReason K)) (C_possible_moves : Cal P w K mg base "possible_moves" ["house", "state"] 8 (spPoss K))
    (C_l_steps : Cal P w K mg base "_law_steps" ["_law_doors", "_law_position"] 2 (spPoss K)) : Cal P w K mg base "_law_right" ["_law_generator_here", "_law_doors", "_law_position"] 10 (spRight K) := by
  refine D.ok sc_l_right (fun _ _ _ _ _ _ us hl => match us, hl with | [_, _, _], _ => rfl) (fun vs H Q E h => ?_) (fun f cdv A outer s H vs Q E hr h => ?_)
  · obtain ⟨g, a, s, b, n, ds, S, rfl, _⟩ := h
    rfl
  obtain ⟨g, a, s, b, n, ds, S, rfl, hg, hH, tree, hn, st, ok, hb, q⟩ := h
  obtain ⟨r, b1, h1, h2, h3⟩ := id st
  have hdn := tree.len
  have few := ok.few
  obtain ⟨gx, hgx⟩ := hg.lst
  obtain ⟨f_l_random_steps, fd_l_random_steps, g_l_random_steps, k_l_random_steps, b_l_random_steps, G_l_random_steps⟩ := C_l_random_steps
  obtain ⟨f_play, fd_play, g_play, k_play, b_play, G_play⟩ := C_play
  obtain ⟨f_l_every_step, fd_l_every_step, g_l_every_step, k_l_every_step, b_l_every_step, G_l_every_step⟩ := C_l_every_step
  obtain ⟨f_l_random, fd_l_random, g_l_random, k_l_random, b_l_random, G_l_random⟩ := C_l_random
  obtain ⟨f_l_result, fd_l_result, g_l_result, k_l_result, b_l_result, G_l_result⟩ := C_l_result
  obtain ⟨f_l_expected, fd_l_expected, g_l_expected, k_l_expected, b_l_expected, G_l_expected⟩ := C_l_expected
  obtain ⟨f_l_reason, fd_l_reason, g_l_reason, k_l_reason, b_l_reason, G_l_reason⟩ := C_l_reason
  obtain ⟨f_possible_moves, fd_possible_moves, g_possible_moves, k_possible_moves, b_possible_moves, G_possible_moves⟩ := C_possible_moves
  obtain ⟨f_l_steps, fd_l_steps, g_l_steps, k_l_steps, b_l_steps, G_l_steps⟩ := C_l_steps
  refine ⟨_, (pss_cons (ps_set (i := 3) sc_l_right.nd rfl (.inl rfl) (pe_callB call_len_seq (by rfl) T.len PySem.boot_len (pa_cons (pe_ix ix_tup (pv 2) pe_int (fun _ _ => rfl)) pa_nil)))
    (pss_cons (ps_asg (pe_call G_l_random_steps (hr.mono (by decide)) (by rfl) g_l_random_steps k_l_random_steps b_l_random_steps .nil pass0 (pa_cons (pv 0) (pa_cons (pv 1) (pa_cons (pv 2) (pa_cons pe_int pa_nil))))) (pg_unl (n := 2) rfl (pgs_cons (pg_name (i := 4) sc_l_right.nd rfl (.inl rfl)) (pgs_cons (pg_name (i := 5) sc_l_right.nd rfl (.inl rfl)) pgs_nil))))
    (pss_cons (ps_if (PW.pt (pw_or (pt_cmpR (op_neD hr.units) (pe_call G_play (hr.mono (by decide)) (by rfl) g_play k_play b_play .nil passL (pa_cons (pv 1) (pa_cons (pv 2) (pa_cons (pv 4) pa_nil)))) (pv 5) (nomark _)) (pw_or1 (pt_cmpR (op_neD hr.units) (pe_call G_play (hr.mono (by decide)) (by rfl) g_play k_play b_play .nil passL (pa_cons (pv 1) (pa_cons (pv 2) (pa_cons (pe_lst pa_nil) pa_nil)))) (pv 2) (nomark _))))) (pss_one (ps_ret pe_bl)) pss_nil)
    (pss_cons (ps_set (i := 6) sc_l_right.nd rfl (.inl rfl) (pe_call G_l_every_step (hr.mono (by decide)) (by rfl) g_l_every_step k_l_every_step b_l_every_step .nil pass0 (pa_cons (pv 1) (pa_cons (pv 3) pa_nil))))
    (pss_cons (ps_for PassesOwn.never rfl (pi_range1 rfl T.range (pa_cons (pe_op op_mul pe_int (pe_callB (call_min2 rfl) (by rfl) T.min (by decide +kernel) (pa_cons pe_int (pa_cons (pe_callB call_len_seq (by rfl) T.len PySem.boot_len (pa_cons (pv 6) pa_nil)) pa_nil)))) pa_nil)) (pg_name (i := 7) sc_l_right.nd rfl (.inl rfl))
    (pss_cons (ps_set (i := 8) sc_l_right.nd rfl (.inl rfl) (pe_call G_l_random (hr.mono (by decide)) (by rfl) g_l_random k_l_random b_l_random .nil pass0 (pa_cons (pv 0) (pa_cons (pe_op op_add (pe_callB call_len_seq (by rfl) T.len PySem.boot_len (pa_cons (pv 4) pa_nil)) pe_int) pa_nil))))
    (pss_cons (ps_set (i := 9) sc_l_right.nd rfl (.inl rfl) (pe_op op_cat (pe_op op_cat (pe_slice sl_list (pv 4) po_none (po_some (pv 8))) (pe_lst (pa_cons (pe_ix ix_list (pv 6) (pe_call G_l_random (hr.mono (by decide)) (by rfl) g_l_random k_l_random b_l_random .nil pass0 (pa_cons (pv 0) (pa_cons (pe_callB call_len_seq (by rfl) T.len PySem.boot_len (pa_cons (pv 6) pa_nil)) pa_nil))) (fun _ _ => rfl)) pa_nil))) (pe_slice sl_list (pv 4) (po_some (pv 8)) po_none)))
    (pss_cons (ps_set (i := 10) sc_l_right.nd rfl (.inl rfl) (pe_callTy call_list_of (by rfl) T.list (by decide +kernel) (pa_cons (pv 9) pa_nil)))
    (pss_cons (ps_if (pt_cmpR (op_neD hr.units) (pe_call G_l_result (hr.mono (by decide)) (by rfl) g_l_result k_l_result b_l_result .nil pass0 (pa_cons (pv 1) (pa_cons (pv 2) (pa_cons (pv 9) pa_nil)))) (pe_call G_l_expected (hr.mono (by decide)) (by rfl) g_l_expected k_l_expected b_l_expected .nil pass0 (pa_cons (pv 1) (pa_cons (pv 2) (pa_cons (pv 9) pa_nil)))) (nomark _)) (pss_one (ps_ret pe_bl)) pss_nil)
    (pss_cons (ps_if (pt_cmpR (op_neD hr.units) (pv 9) (pv 10) (nomark _)) (pss_one (ps_ret pe_bl)) pss_nil)
    (pss_one (ps_if (pt_cmpR (op_neD hr.units) (pe_call G_l_reason (hr.mono (by decide)) (by rfl) g_l_reason k_l_reason b_l_reason .nil pass0 (pa_cons (pv 1) (pa_cons (pv 2) (pa_cons (pe_op op_cat (pv 9) (pe_lst (pa_cons pe_non pa_nil))) pa_nil)))) (pe_tup (pa_cons pe_str (pa_cons (pe_callB call_len_seq (by rfl) T.len PySem.boot_len (pa_cons (pv 9) pa_nil)) pa_nil))) (nomark _)) (pss_one (ps_ret pe_bl)) pss_nil))))))))
    (pss_cons (ps_for PassesOwn.never rfl (pi_list (pe_lst (pa_cons (pv 2) (pa_cons (pv 5) pa_nil)))) (pg_name (i := 11) sc_l_right.nd rfl (.inl rfl))
    (pss_cons (ps_set (i := 12) sc_l_right.nd rfl (.inl rfl) (pe_call G_possible_moves (hr.mono (by decide)) (by rfl) g_possible_moves k_possible_moves b_possible_moves .nil pass0 (pa_cons (pv 1) (pa_cons (pv 11) pa_nil))))
    (pss_cons (ps_expr (pe_bm PySem.F.plainAttrs_list PySem.F.slot_list_append PySem.F.type_list_append mt_append (pv 12) (pa_cons pe_non pa_nil)))
    (pss_cons (ps_set (i := 13) sc_l_right.nd rfl (.inl rfl) (pe_call G_possible_moves (hr.mono (by decide)) (by rfl) g_possible_moves k_possible_moves b_possible_moves .nil pass0 (pa_cons (pv 1) (pa_cons (pv 11) pa_nil))))
    (pss_one (ps_if (pt_cmpR (op_neD hr.units) (pv 13) (pe_call G_l_steps (hr.mono (by decide)) (by rfl) g_l_steps k_l_steps b_l_steps .nil pass0 (pa_cons (pv 1) (pa_cons (pv 11) pa_nil))) (nomark _)) (pss_one (ps_ret pe_bl)) pss_nil))))))
    (pss_one (ps_ret pe_bl)))))))), ?_⟩
  refine ⟨_, rfl, s, _, _, _, rfl, rfl, h1, atI_nat (j := 0) rfl, _, _, rfl, .inr h2, ?_⟩
  refine ⟨_, rfl, _, rfl, _, rfl, g, a, s, b, n, 9, ds, S, rfl, hg, hH, tree, by omega, st, ok, by omega, by omega, fun H1 q1 sl sf l S' bt1 g1 hq1 tr1 nslg vm ll er st1' ok' lk => ?_⟩
  refine ⟨q1, _, rfl, SqL.of hq1, rfl, _, _, rfl, _, _, rfl, rfl, ?_⟩
  have hH1 := hH.but hgx bt1
  have st1 := st.but hgx bt1
  have plan_of : ∀ {H : Hp} {q : Addr} {l : List Mv}, TrisAt H q l → PlanAt H q l false := fun ⟨ts, e1, e2⟩ => ⟨ts, by rw [if_neg (by simp), List.append_nil]; exact e1, e2⟩
  refine ⟨_, rfl, _, rfl, _, rfl, a, s, sl, n, ds, S, l, false, rfl, hH1, tree, by omega, st1, ok, plan_of tr1, vm, (fun z => by cases z), (fun _ S2' e2 H2 q2 s2 st2 => ?_), fun _ i wd e2 => (by rw [er] at e2; cases e2)⟩
  have eS : S2' = S' := by rw [er] at e2; exact (Sum.inr.inj e2).symm
  subst eS
  refine ⟨_, rfl, dS S2', dS S2', dp_S st2, dp_S (st1'.same s2), dS_shaped _, dS_shaped _, _, rfl, ?_⟩
  rw [d_refl (dS_shaped _)]
  refine iteF ?_
  refine ⟨_, rfl, _, rfl, Nat.zero_le _, fun pe npe => ?_⟩
  have sE := s2.trans (Same.upd (o := .lst []) npe)
  refine ⟨a, s, pe, n, ds, S, [], false, rfl, hH1.same sE, tree, by omega, st1.same sE, ok, plan_of ⟨[], upd_same, TL.nil⟩, (fun m hm => (List.not_mem_nil hm).elim), (fun z => by cases z), (fun _ S3 e3 H3 q3 s3 st3 => ?_), fun _ i wd e3 => (by cases e3)⟩
  have eS3 : S = S3 := Sum.inr.inj e3
  subst eS3
  have s13 := sE.trans s3
  refine ⟨_, rfl, dS S, dS S, dp_S st3, dp_S (st1.same s13), dS_shaped _, dS_shaped _, _, rfl, ?_⟩
  rw [d_refl (dS_shaped _)]
  refine iteF ?_
  refine ⟨_, rfl, _, rfl, a, S.1.length, n, ds, by rw [nv_len]; rfl, hH1.same s13, tree, hn, few, fun H4 ev el s4 nev trv vme lle => ?_⟩
  have s14 := s13.trans s4
  have g4 := g1.same s14
  have bt04 := bt1.trans s14.but
  have hH4 := hH1.same s14
  have st4 := st1.same s14
  have stf4 := st1'.same s14
  have trl4 := tr1.same s14
  have nevg : ev ≠ g := (g1.same s13).ne nev
  obtain ⟨tv, hv1, hv2⟩ := id trv
  obtain ⟨N, hN, hN4, hNe⟩ : ∃ N : Nat, (4 : Int) * (if (((tv.map V.ref).length : Nat) : Int) < 1 then (((tv.map V.ref).length : Nat) : Int) else 1) = (N : Int) ∧ N ≤ 4 ∧ (0 < N → 0 < el.length) := by
    rw [List.length_map, hv2.1]
    by_cases c : (el.length : Int) < 1
    · rw [if_pos c]
      exact ⟨4 * el.length, by omega, by omega, by omega⟩
    · rw [if_neg c]
      exact ⟨4, by omega, by omega, by omega⟩
  refine ⟨_, rfl, _, _, rfl, .inl (SqL.of hv1), _, _, rfl, _, _, rfl, rfl, .inl (by decide), (N : Int), congrArg (fun z => [V.int z]) hN, by omega, by omega, ?_⟩
  obtain ⟨gx4, hgx4⟩ := g4.lst
  refine for_range (lo := 0) (n := N) (fun k σ H5 => ∃ y7 y8 y9 y10 y11 y12 y13, σ = [some (.ref g), some (.ref a), some (.ref s), some (.int (((nv S.1).length : Nat) : Int)), some (.ref sl), some (.ref sf), some (.ref ev), y7, y8, y9, y10, y11, y12, y13] ∧ But g H4 H5 ∧ GenAt H5 g (b + 100 + 2 * k))
    ⟨_, _, _, _, _, _, _, rfl, But.refl _ _, g4⟩ ?_ ?_
  · rintro k σ H5 hk ⟨y7, y8, y9, y10, y11, y12, y13, rfl, bt5, g5⟩
    rw [Int.zero_add]
    have el0 := hNe (by omega)
    have hH5 := hH4.but hgx4 bt5
    have st5 := st4.but hgx4 bt5
    obtain ⟨ts, e1, e2⟩ := trl4.but hgx4 nslg bt5
    obtain ⟨tv5, f1, f2⟩ := trv.but hgx4 nevg bt5
    refine ⟨_, rfl, _, rfl, _, _, rfl, .inl (SqL.of e1), _, _, rfl, rfl, g, b + 100 + 2 * k, l.length + 1, ?_, g5, by omega, by omega, by omega, fun H6 u bt6 g6 hu => ?_⟩
    · refine congrArg (fun z => [V.ref g, V.int z]) ?_
      rw [List.length_map, e2.1]
      rfl
    obtain ⟨gx5, hgx5⟩ := g5.lst
    have e16 := bt6 _ _ nslg e1
    have e26 := e2.but hgx5 bt6
    have f16 := bt6 _ _ nevg f1
    have f26 := f2.but hgx5 bt6
    have hH6 := hH5.but hgx5 bt6
    have st6 := st5.but hgx5 bt6
    refine ⟨_, rfl, _, rfl, _, rfl, sl, _, rfl, SqL.of e16, fun p1 np1 => ?_⟩
    have hul : u ≤ (ts.map V.ref).length := by rw [List.length_map, e2.1]; omega
    rw [cutL_to hul]
    have sA := Same.upd (o := .lst ((ts.map V.ref).take u)) np1
    have hp1 : (upd H6 p1 (.lst ((ts.map V.ref).take u))) p1 = some (.lst ((ts.map V.ref).take u)) := upd_same
    have p1g : p1 ≠ g := g6.ne np1
    have gA := g6.same sA
    have e1A := sA _ _ e16
    have f1A := sA _ _ f16
    have e2A := e26.same sA
    have f2A := f26.same sA
    have hHA := hH6.same sA
    have stA := st6.same sA
    have btA := (bt5.trans bt6).trans sA.but
    generalize upd H6 p1 (.lst ((ts.map V.ref).take u)) = H7 at sA hp1 gA e1A f1A e2A f2A hHA stA btA
    refine ⟨_, rfl, _, rfl, _, rfl, _, _, rfl, .inl (SqL.of f1A), g, b + 100 + 2 * k + 1, el.length, ?_, gA, el0, by omega, by omega, fun H8 u2 bt8 g8 hu2 => ?_⟩
    · refine congrArg (fun z : Nat => [V.ref g, V.int (z : Int)]) ?_
      rw [List.length_map, f2A.1]
    obtain ⟨gx7, hgx7⟩ := gA.lst
    obtain ⟨t1, ht1⟩ : ∃ t1, tv5[u2]? = some t1 := get_of f2A.1 hu2
    obtain ⟨m, hm⟩ : ∃ m, el[u2]? = some m := get_of rfl hu2
    have htm := f2A.2 u2 t1 m ht1 hm
    have htm8 := bt8 _ _ (ne_lt hgx7 htm) htm
    refine ⟨ev, _, _, .ref t1, rfl, rfl, SqL.of (bt8 _ _ nevg f1A), atI_nat (by rw [List.getElem?_map, ht1]; rfl), ?_⟩
    refine ⟨by show 1 ≤ sizeLine; decide, fun p2 np2 => ?_⟩
    have s8a := Same.upd (o := .lst [.ref t1]) np2
    have tsl : ts.length ≤ 9 := by rw [e2.1]; exact ll
    refine ⟨p1, p2, _, _, rfl, rfl, s8a _ _ (bt8 _ _ p1g hp1), upd_same, ?_, fun p3 np3 => ?_⟩
    · refine Nat.le_of_lt (small1000 ?_)
      rw [List.length_take, List.length_map, List.length_singleton]
      omega
    have s8b := s8a.trans (Same.upd (o := .lst ((ts.map V.ref).take u ++ [.ref t1])) np3)
    refine ⟨_, rfl, _, rfl, _, rfl, sl, _, rfl, SqL.of (s8b _ _ (bt8 _ _ nslg e1A)), fun p4 np4 => ?_⟩
    rw [cutL_from hul]
    have s8c := s8b.trans (Same.upd (o := .lst ((ts.map V.ref).drop u)) np4)
    have hp3 := (Same.upd (o := .lst ((ts.map V.ref).drop u)) np4) _ _ (show (upd (upd H8 p2 (.lst [.ref t1])) p3 (.lst ((ts.map V.ref).take u ++ [.ref t1]))) p3 = some (.lst ((ts.map V.ref).take u ++ [.ref t1])) from upd_same)
    refine ⟨p3, p4, _, _, rfl, rfl, hp3, upd_same, ?_, fun p5 np5 => ?_⟩
    · refine Nat.le_of_lt (small1000 ?_)
      rw [List.length_append, List.length_take, List.length_drop, List.length_map, List.length_singleton]
      omega
    have s8d := s8c.trans (Same.upd (o := .lst ((ts.map V.ref).take u ++ [.ref t1] ++ (ts.map V.ref).drop u)) np5)
    have hp5 : (upd (upd (upd (upd H8 p2 (.lst [.ref t1])) p3 (.lst ((ts.map V.ref).take u ++ [.ref t1]))) p4 (.lst ((ts.map V.ref).drop u))) p5 (.lst ((ts.map V.ref).take u ++ [.ref t1] ++ (ts.map V.ref).drop u))) p5 = some (.lst ((ts.take u ++ [t1] ++ ts.drop u).map V.ref)) := by
      rw [upd_same, List.map_append, List.map_append, List.map_take, List.map_drop]
      rfl
    have e28 := e2A.but hgx7 bt8
    have hH8 := (hHA.but hgx7 bt8).same s8d
    have st8 := (stA.but hgx7 bt8).same s8d
    have g8d := g8.same s8d
    have bt8d := (btA.trans bt8).trans s8d.but
    have tl8 : TL (upd (upd (upd (upd H8 p2 (.lst [.ref t1])) p3 (.lst ((ts.map V.ref).take u ++ [.ref t1]))) p4 (.lst ((ts.map V.ref).drop u))) p5 (.lst ((ts.map V.ref).take u ++ [.ref t1] ++ (ts.map V.ref).drop u))) (ts.take u ++ [t1] ++ ts.drop u) (l.take u ++ [m] ++ l.drop u) :=
      (((e28.take u).append (TL.one htm8)).append (e28.drop u)).same s8d
    have vmc : ∀ m' ∈ l.take u ++ [m] ++ l.drop u, VM ds S.1.length m' := by
      intro m' hm'
      rcases List.mem_append.mp hm' with hm' | hm'
      · rcases List.mem_append.mp hm' with hm' | hm'
        · exact vm _ (List.mem_of_mem_take hm')
        · rw [List.mem_singleton] at hm'
          rw [hm']
          exact vme _ (List.mem_of_getElem? hm)
      · exact vm _ (List.mem_of_mem_drop hm')
    have lcl : (ts.take u ++ [t1] ++ ts.drop u).length ≤ 10 := by
      simp only [List.length_append, List.length_take, List.length_drop, List.length_singleton]
      omega
    generalize upd (upd (upd (upd H8 p2 (.lst [.ref t1])) p3 (.lst ((ts.map V.ref).take u ++ [.ref t1]))) p4 (.lst ((ts.map V.ref).drop u))) p5 (.lst ((ts.map V.ref).take u ++ [.ref t1] ++ (ts.map V.ref).drop u)) = H9 at s8d hp5 hH8 st8 g8d bt8d tl8
    generalize ts.take u ++ [t1] ++ ts.drop u = tc at hp5 tl8 lcl
    generalize l.take u ++ [m] ++ l.drop u = lc at tl8 vmc
    refine ⟨_, rfl, p5, _, rfl, .inl (SqL.of hp5), fun p6 np6 => ?_⟩
    have s9 := Same.upd (o := .lst (tc.map V.ref)) np6
    have trc : TrisAt (upd H9 p6 (.lst (tc.map V.ref))) p5 lc := ⟨tc, s9 _ _ hp5, tl8.same s9⟩
    have trb : TrisAt (upd H9 p6 (.lst (tc.map V.ref))) p6 lc := ⟨tc, upd_same, tl8.same s9⟩
    have hH10 := hH8.same s9
    have st10 := st8.same s9
    have g10 := g8d.same s9
    have bt10 := bt8d.trans s9.but
    generalize upd H9 p6 (.lst (tc.map V.ref)) = H10 at s9 trc trb hH10 st10 g10 bt10
    have dsh := dO_shaped (o := runs ds 0 S lc) fun i wd e => runs_word e
    refine ⟨_, rfl, _, rfl, _, rfl, a, s, p5, n, ds, S, lc, rfl, hH10, tree, by omega, st10, ok, plan_of trc, vmc, fun H11 q11 s11 d11 => ?_⟩
    refine ⟨_, rfl, _, rfl, _, rfl, a, s, p5, n, ds, S, lc, rfl, hH10.same s11, tree, by omega, st10.same s11, ok, trc.same s11, vmc, fun H12 q12 s12 d12 => ?_⟩
    refine ⟨_, _, dp_same s12 _ _ d11, d12, dsh, dsh, _, rfl, ?_⟩
    rw [d_refl dsh]
    refine iteF ?_
    have s1012 := s11.trans s12
    refine ⟨_, rfl, _, rfl, dMs lc, dMs lc, dp_Tris (trc.same s1012), dp_Tris (trb.same s1012), dMs_shaped _, dMs_shaped _, _, rfl, ?_⟩
    rw [d_refl (dMs_shaped _)]
    refine iteF ?_
    obtain ⟨tcc, hc1, hc2⟩ := trc.same s1012
    refine ⟨_, rfl, _, rfl, _, rfl, by show 1 ≤ sizeLine; decide, fun p13 np13 => ?_⟩
    have s13' := Same.upd (o := .lst [.non]) np13
    refine ⟨p5, p13, _, _, rfl, rfl, s13' _ _ hc1, upd_same, ?_, fun p14 np14 => ?_⟩
    · rw [List.length_map, hc2.1, ← tl8.1]
      exact Nat.le_of_lt (small1000 (by show tc.length + 1 ≤ 1000; omega))
    have s14' := s13'.trans (Same.upd (o := .lst (tcc.map V.ref ++ [.non])) np14)
    have s1014 := s1012.trans s14'
    refine ⟨a, s, p14, n, ds, S, lc, rfl, hH10.same s1014, tree, by omega, st10.same s1014, ok, ⟨tcc, by rw [upd_same, if_pos rfl], hc2.same s14'⟩, vmc, fun H15 q15 s15 d15 => ?_⟩
    refine ⟨_, rfl, _, _, rfl, .inl (SqL.of (s15 _ _ (s14' _ _ hc1))), by show 2 ≤ sizeLine; decide, fun p16 np16 => ?_⟩
    have s16 := Same.upd (o := .tup [.str "move", .int (((tcc.map V.ref).length : Nat) : Int)]) np16
    refine ⟨dR lc.length, dR lc.length, dp_same s16 _ _ d15, ?_, dR_shaped _, dR_shaped _, _, rfl, ?_⟩
    · refine .tup (SqT.of upd_same) (.cons (.str _) (.cons ?_ .nil))
      rw [List.length_map, hc2.1]
      exact .int _
    rw [d_refl (dR_shaped _)]
    refine iteF ⟨_, _, _, _, _, _, _, rfl, bt10.trans ((s1014.trans s15).trans s16).but, (g10.same ((s1014.trans s15).trans s16)).mono (by omega)⟩
  · rintro σ H5 ⟨y7, y8, y9, y10, y11, y12, y13, rfl, bt5, g5⟩
    have hH5 := hH4.but hgx4 bt5
    have st5 := st4.but hgx4 bt5
    have stf5 := stf4.but hgx4 bt5
    refine ⟨_, rfl, _, rfl, by show 2 ≤ sizeLine; decide, fun pq npq => ?_⟩
    have sq := Same.upd (o := .lst [.ref s, .ref sf]) npq
    refine ⟨pq, rfl, ⟨_, SqL.of upd_same⟩, ?_⟩
    refine for_it (walk_list (K := K) (a := pq) (xs := [.ref s, .ref sf])) (fun k σ H6 => ∃ y7 y8 y9 y10 y11 y12 y13, σ = [some (.ref g), some (.ref a), some (.ref s), some (.int (((nv S.1).length : Nat) : Int)), some (.ref sl), some (.ref sf), some (.ref ev), y7, y8, y9, y10, y11, y12, y13] ∧ Same (upd H5 pq (.lst [.ref s, .ref sf])) H6)
      ⟨_, _, _, _, _, _, _, rfl, Same.refl _⟩ (fun i σ H6 _ ⟨_, _, _, _, _, _, _, _, sm⟩ => SqL.of (sm _ _ upd_same)) ?_ ?_
    · rintro k x σ H6 H7 hk ⟨y7, y8, y9, y10, y11, y12, y13, rfl, sm⟩ ⟨rfl, ex⟩
      have sm0 := sq.trans sm
      obtain ⟨c, Sc, rfl, stc, okc⟩ : ∃ (c : Addr) (Sc : S2), x = .ref c ∧ StateAt K H7 c Sc ∧ StOk n ds Sc := by
        match k, hk, ex with
        | 0, _, ex => exact ⟨s, S, (Option.some.inj ex).symm, st5.same sm0, ok⟩
        | 1, _, ex => exact ⟨sf, S2', (Option.some.inj ex).symm, stf5.same sm0, ok'⟩
      refine ⟨_, rfl, _, rfl, a, c, ds, n, Sc, rfl, hH5.same sm0, tree, by omega, stc, okc, fun H8 q8 l8 s8 nq8 ⟨t8, a1, a2⟩ cn8 => ?_⟩
      refine ⟨_, rfl, .inl ⟨rfl, _, SqL.of a1⟩, q8, _, _, rfl, rfl, a1, ?_, ?_⟩
      · rw [List.length_map, a2.1]
        have := cn8.len
        exact Nat.lt_of_le_of_lt this (by decide)
      have s9 : Same H7 (upd H8 q8 (.lst (t8.map V.ref ++ [.non]))) := s8.at nq8
      generalize upd H8 q8 (.lst (t8.map V.ref ++ [.non])) = H9 at s9
      refine ⟨_, rfl, _, rfl, a, c, ds, n, Sc, rfl, (hH5.same sm0).same s9, tree, by omega, stc.same s9, okc, fun H10 q10 l10 s10 nq10 tr10 cn10 => ?_⟩
      refine ⟨_, rfl, _, rfl, _, rfl, a, c, ds, n, Sc, rfl, ((hH5.same sm0).same s9).same s10, tree, by omega, (stc.same s9).same s10, okc, fun H11 q11 l11 s11 nq11 tr11 cn11 => ?_⟩
      have el := cn11.unique cn10
      subst el
      refine ⟨dMs l11, dMs l11, dp_Tris (tr10.same s11), dp_Tris tr11, dMs_shaped _, dMs_shaped _, _, rfl, ?_⟩
      rw [d_refl (dMs_shaped _)]
      exact iteF ⟨_, _, _, _, _, _, _, rfl, ((sm.trans s9).trans s10).trans s11⟩
    · rintro σ H6 ⟨y7, y8, y9, y10, y11, y12, y13, rfl, sm⟩
      have sm0 := sq.trans sm
      exact q H6 ((bt04.trans bt5).trans sm0.but) ((g5.same sm0).mono (by omega))
end
end K5

namespace K5
open PySem PySem.Spec PyProof.Rows L2
def spLaw (K : PySem.W.Frag) : Sp := fun vs H Q _ => ∃ (a : Addr) (ns : List Int), vs = [.ref a] ∧ SqL K H a (ns.map V.int) ∧ ns.length ≤ 63 ∧ ∀ H', Q (.bl true) H'
section
variable {P : Program} {w : World} {K : PySem.W.Frag}
      {mg : Str → Option Value} {base : Heap}
theorem ok_law {f0 : Addr} {fd0 : FuncData} (T : Bl mg) (F : Fun K "law" "law" s_law f0 fd0) (C_l_generator : Cal P w K mg base "_law_generator" ["_law_script", "_law_index"] 2 (spGen K)) (C_l_random_house : Cal P w K mg base "_law_random_house" ["_law_generator_here", "_law_most"] 4 (spHouse K))
    (C_l_random_state : Cal P w K mg base "_law_random_state" ["_law_generator_here", "_law_doors", "_law_people"] 3 (spRState K)) (C_l_random : Cal P w K mg base "_law_random" ["_law_generator_here", "_law_bound"] 2 spRand)
    (C_l_right : Cal P w K mg base "_law_right" ["_law_generator_here", "_law_doors", "_law_position"] 10 (spRight K)) : FnOk P w K mg base CX0 11 f0 fd0 ["_law_script"] (spLaw K) := by
  refine F.ok sc_law (fun vs H Q E h => ?_) (fun cdv A outer s H vs Q E hr h => ?_)
  · obtain ⟨a, ns, rfl, _⟩ := h
    rfl
  obtain ⟨a, ns, rfl, hs, hns, q⟩ := h
  obtain ⟨f_l_generator, fd_l_generator, g_l_generator, k_l_generator, b_l_generator, G_l_generator⟩ := C_l_generator
  obtain ⟨f_l_random_house, fd_l_random_house, g_l_random_house, k_l_random_house, b_l_random_house, G_l_random_house⟩ := C_l_random_house
  obtain ⟨f_l_random_state, fd_l_random_state, g_l_random_state, k_l_random_state, b_l_random_state, G_l_random_state⟩ := C_l_random_state
  obtain ⟨f_l_random, fd_l_random, g_l_random, k_l_random, b_l_random, G_l_random⟩ := C_l_random
  obtain ⟨f_l_right, fd_l_right, g_l_right, k_l_right, b_l_right, G_l_right⟩ := C_l_right
  refine ⟨_, (pss_cons (ps_for PassesOwn.never rfl (pi_range1 rfl T.range (pa_cons pe_int pa_nil)) (pg_name (i := 1) sc_law.nd rfl (.inl rfl))
    (pss_cons (ps_set (i := 2) sc_law.nd rfl (.inl rfl) (pe_call G_l_generator (hr.mono (by decide)) (by rfl) g_l_generator k_l_generator b_l_generator .nil pass0 (pa_cons (pv 0) (pa_cons (pv 1) pa_nil))))
    (pss_cons (ps_set (i := 3) sc_law.nd rfl (.inl rfl) (pe_call G_l_random_house (hr.mono (by decide)) (by rfl) g_l_random_house k_l_random_house b_l_random_house .nil pass0 (pa_cons (pv 2) (pa_cons pe_int pa_nil))))
    (pss_one (ps_for PassesOwn.never rfl (pi_range1 rfl T.range (pa_cons pe_int pa_nil)) (pg_name (i := 4) sc_law.nd rfl (.inl rfl))
    (pss_cons (ps_set (i := 5) sc_law.nd rfl (.inl rfl) (pe_call G_l_random_state (hr.mono (by decide)) (by rfl) g_l_random_state k_l_random_state b_l_random_state .nil pass0 (pa_cons (pv 2) (pa_cons (pv 3) (pa_cons (pe_op op_add pe_int (pe_call G_l_random (hr.mono (by decide)) (by rfl) g_l_random k_l_random b_l_random .nil pass0 (pa_cons (pv 2) (pa_cons pe_int pa_nil)))) pa_nil)))))
    (pss_one (ps_if (pt_not (pt_val (pe_call G_l_right (hr.mono (by decide)) (by rfl) g_l_right k_l_right b_l_right .nil pass0 (pa_cons (pv 2) (pa_cons (pv 3) (pa_cons (pv 5) pa_nil)))))) (pss_one (ps_ret pe_bl)) pss_nil))))))))
    (pss_one (ps_ret pe_bl))), ?_⟩
  refine ⟨4, rfl, by decide, by decide, ?_⟩
  refine for_range (lo := 0) (n := 4) (fun i σ H1 => ∃ y1 y2 y3 y4 y5, σ = [some (.ref a), y1, y2, y3, y4, y5] ∧ Same H H1) ⟨_, _, _, _, _, rfl, Same.refl _⟩ ?_ ?_
  · rintro i σ H1 hi ⟨y1, y2, y3, y4, y5, rfl, s1⟩
    rw [Int.zero_add]
    refine ⟨_, rfl, _, rfl, a, ns, i, rfl, s1.seq hs, by omega, fun H2 g s2 ng gen => ?_⟩
    have s12 := s1.trans s2
    have ng0 := s1.free ng
    refine ⟨_, rfl, g, 1000000, 7, rfl, gen, by decide, by decide, by decide, fun H3 d ds n bt gen3 ndg house tree hn => ?_⟩
    refine ⟨3, rfl, by decide, by decide, ?_⟩
    refine for_range (lo := 0) (n := 3) (fun j σ H4 => ∃ y4 y5, σ = [some (.ref a), some (.int (i : Int)), some (.ref g), some (.ref d), y4, y5] ∧ But g H3 H4 ∧ GenAt H4 g (1001000 + 400 * j)) ⟨_, _, rfl, But.refl _ _, gen3⟩ ?_ ?_
    · rintro j σ H4 hj ⟨y4, y5, rfl, bt4, g4⟩
      rw [Int.zero_add]
      obtain ⟨gx3, hgx3⟩ := gen3.lst
      refine ⟨_, rfl, _, rfl, _, rfl, g, 1001000 + 400 * j, 4, rfl, g4, by decide, by decide, by omega, fun H5 u bt5 g5 hu => ⟨_, _, rfl, rfl, ?_⟩⟩
      have bt35 := bt4.trans bt5
      refine ⟨g, d, 1001000 + 400 * j + 1, 1 + u, n, ds, congrArg (fun z => [V.ref g, V.ref d, V.int z]) (by omega), g5, house.but hgx3 bt35, tree, by omega, by omega, by omega, by omega, fun H6 s6 S bt6 g6 st6 ok6 => ?_⟩
      have bt36 := bt35.trans bt6
      refine ⟨_, rfl, _, rfl, _, rfl, g, d, s6, 1001000 + 400 * j + 1 + 100, n, ds, S, rfl, g6, house.but hgx3 bt36, tree, by omega, st6, ok6, by omega, fun H7 bt7 g7 => ?_⟩
      exact ⟨_, rfl, iteF ⟨_, _, rfl, bt36.trans bt7, g7.mono (by omega)⟩⟩
    · rintro σ H4 ⟨y4, y5, rfl, bt4, g4⟩
      exact ⟨_, _, _, _, _, rfl, s1.trans (But.same s2 ng (bt.trans bt4))⟩
  · rintro σ H1 ⟨y1, y2, y3, y4, y5, rfl, s1⟩
    exact q H1
end
end K5

namespace K5
open PySem PySem.Spec PyProof.Rows L2
theorem def_mk {K : PySem.W.Frag} {h : Heap} {mg : Str → Option Value} {x : Str} {st : Stmt} (X : K.In h) (G : h.Ns mainGlobals mg) {f : Addr} {oc : Value} {od an : Option Addr} {osl : Array (Option Value)} {kV doc pm cdv ct : Value} (a : PySem.W.nsIn K mainGlobals x = some (some (.ref f)))
    (l : K.lookup f = some ⟨oc, od, .func (PySem.W.fnOf x x (defArgs st) (defBody st) (defScope st) .none kV doc pm an cdv ct), osl⟩) (c : PySem.W.codeIn K cdv x = true) (k : PySem.W.keepIn K (.ref f) = true) : Def K mg x st :=
  ⟨f, _, fun_mk l c k, PySem.W.mg_of X G a⟩
theorem all_mk {l : PySem.W.OpenLaw} {w : World} {K : PySem.W.Frag} {h : Heap} {mg : Str → Option Value} {fa : Addr} (X : K.In h) (G : h.Ns mainGlobals mg) (hfa : mg "law" = some (.ref fa))
    {f0 : Addr} {od0 an0 : Option Addr} {sl0 : Array (Option Value)} {oc0 kV0 dc0 pm0 cd0 ct0 : Value}
    (a0 : PySem.W.nsIn K mainGlobals "is_whole" = some (some (.ref f0))) (l0 : K.lookup f0 = some ⟨oc0, od0, .func (PySem.W.fnOf "is_whole" "is_whole" (defArgs s_is_whole) (defBody s_is_whole) (defScope s_is_whole) .none kV0 dc0 pm0 an0 cd0 ct0), sl0⟩) (c0 : PySem.W.codeIn K cd0 "is_whole" = true) (k0 : PySem.W.keepIn K (.ref f0) = true)
    {f1 : Addr} {od1 an1 : Option Addr} {sl1 : Array (Option Value)} {oc1 kV1 dc1 pm1 cd1 ct1 : Value}
    (a1 : PySem.W.nsIn K mainGlobals "is_index" = some (some (.ref f1))) (l1 : K.lookup f1 = some ⟨oc1, od1, .func (PySem.W.fnOf "is_index" "is_index" (defArgs s_is_index) (defBody s_is_index) (defScope s_is_index) .none kV1 dc1 pm1 an1 cd1 ct1), sl1⟩) (c1 : PySem.W.codeIn K cd1 "is_index" = true) (k1 : PySem.W.keepIn K (.ref f1) = true)
    {f2 : Addr} {od2 an2 : Option Addr} {sl2 : Array (Option Value)} {oc2 kV2 dc2 pm2 cd2 ct2 : Value}
    (a2 : PySem.W.nsIn K mainGlobals "is_door" = some (some (.ref f2))) (l2 : K.lookup f2 = some ⟨oc2, od2, .func (PySem.W.fnOf "is_door" "is_door" (defArgs s_is_door) (defBody s_is_door) (defScope s_is_door) .none kV2 dc2 pm2 an2 cd2 ct2), sl2⟩) (c2 : PySem.W.codeIn K cd2 "is_door" = true) (k2 : PySem.W.keepIn K (.ref f2) = true)
    {f3 : Addr} {od3 an3 : Option Addr} {sl3 : Array (Option Value)} {oc3 kV3 dc3 pm3 cd3 ct3 : Value}
    (a3 : PySem.W.nsIn K mainGlobals "check_house" = some (some (.ref f3))) (l3 : K.lookup f3 = some ⟨oc3, od3, .func (PySem.W.fnOf "check_house" "check_house" (defArgs s_check_house) (defBody s_check_house) (defScope s_check_house) .none kV3 dc3 pm3 an3 cd3 ct3), sl3⟩) (c3 : PySem.W.codeIn K cd3 "check_house" = true) (k3 : PySem.W.keepIn K (.ref f3) = true)
    {f4 : Addr} {od4 an4 : Option Addr} {sl4 : Array (Option Value)} {oc4 kV4 dc4 pm4 cd4 ct4 : Value}
    (a4 : PySem.W.nsIn K mainGlobals "first_ring" = some (some (.ref f4))) (l4 : K.lookup f4 = some ⟨oc4, od4, .func (PySem.W.fnOf "first_ring" "first_ring" (defArgs s_first_ring) (defBody s_first_ring) (defScope s_first_ring) .none kV4 dc4 pm4 an4 cd4 ct4), sl4⟩) (c4 : PySem.W.codeIn K cd4 "first_ring" = true) (k4 : PySem.W.keepIn K (.ref f4) = true)
    {f5 : Addr} {od5 an5 : Option Addr} {sl5 : Array (Option Value)} {oc5 kV5 dc5 pm5 cd5 ct5 : Value}
    (a5 : PySem.W.nsIn K mainGlobals "find_root" = some (some (.ref f5))) (l5 : K.lookup f5 = some ⟨oc5, od5, .func (PySem.W.fnOf "find_root" "find_root" (defArgs s_find_root) (defBody s_find_root) (defScope s_find_root) .none kV5 dc5 pm5 an5 cd5 ct5), sl5⟩) (c5 : PySem.W.codeIn K cd5 "find_root" = true) (k5 : PySem.W.keepIn K (.ref f5) = true)
    {f6 : Addr} {od6 an6 : Option Addr} {sl6 : Array (Option Value)} {oc6 kV6 dc6 pm6 cd6 ct6 : Value}
    (a6 : PySem.W.nsIn K mainGlobals "need_house" = some (some (.ref f6))) (l6 : K.lookup f6 = some ⟨oc6, od6, .func (PySem.W.fnOf "need_house" "need_house" (defArgs s_need_house) (defBody s_need_house) (defScope s_need_house) .none kV6 dc6 pm6 an6 cd6 ct6), sl6⟩) (c6 : PySem.W.codeIn K cd6 "need_house" = true) (k6 : PySem.W.keepIn K (.ref f6) = true)
    {f7 : Addr} {od7 an7 : Option Addr} {sl7 : Array (Option Value)} {oc7 kV7 dc7 pm7 cd7 ct7 : Value}
    (a7 : PySem.W.nsIn K mainGlobals "doors_by_ends" = some (some (.ref f7))) (l7 : K.lookup f7 = some ⟨oc7, od7, .func (PySem.W.fnOf "doors_by_ends" "doors_by_ends" (defArgs s_doors_by_ends) (defBody s_doors_by_ends) (defScope s_doors_by_ends) .none kV7 dc7 pm7 an7 cd7 ct7), sl7⟩) (c7 : PySem.W.codeIn K cd7 "doors_by_ends" = true) (k7 : PySem.W.keepIn K (.ref f7) = true)
    {f8 : Addr} {od8 an8 : Option Addr} {sl8 : Array (Option Value)} {oc8 kV8 dc8 pm8 cd8 ct8 : Value}
    (a8 : PySem.W.nsIn K mainGlobals "has_state_shape" = some (some (.ref f8))) (l8 : K.lookup f8 = some ⟨oc8, od8, .func (PySem.W.fnOf "has_state_shape" "has_state_shape" (defArgs s_has_state_shape) (defBody s_has_state_shape) (defScope s_has_state_shape) .none kV8 dc8 pm8 an8 cd8 ct8), sl8⟩) (c8 : PySem.W.codeIn K cd8 "has_state_shape" = true) (k8 : PySem.W.keepIn K (.ref f8) = true)
    {f9 : Addr} {od9 an9 : Option Addr} {sl9 : Array (Option Value)} {oc9 kV9 dc9 pm9 cd9 ct9 : Value}
    (a9 : PySem.W.nsIn K mainGlobals "check_state" = some (some (.ref f9))) (l9 : K.lookup f9 = some ⟨oc9, od9, .func (PySem.W.fnOf "check_state" "check_state" (defArgs s_check_state) (defBody s_check_state) (defScope s_check_state) .none kV9 dc9 pm9 an9 cd9 ct9), sl9⟩) (c9 : PySem.W.codeIn K cd9 "check_state" = true) (k9 : PySem.W.keepIn K (.ref f9) = true)
    {f10 : Addr} {od10 an10 : Option Addr} {sl10 : Array (Option Value)} {oc10 kV10 dc10 pm10 cd10 ct10 : Value}
    (a10 : PySem.W.nsIn K mainGlobals "is_move" = some (some (.ref f10))) (l10 : K.lookup f10 = some ⟨oc10, od10, .func (PySem.W.fnOf "is_move" "is_move" (defArgs s_is_move) (defBody s_is_move) (defScope s_is_move) .none kV10 dc10 pm10 an10 cd10 ct10), sl10⟩) (c10 : PySem.W.codeIn K cd10 "is_move" = true) (k10 : PySem.W.keepIn K (.ref f10) = true)
    {f11 : Addr} {od11 an11 : Option Addr} {sl11 : Array (Option Value)} {oc11 kV11 dc11 pm11 cd11 ct11 : Value}
    (a11 : PySem.W.nsIn K mainGlobals "check_plan" = some (some (.ref f11))) (l11 : K.lookup f11 = some ⟨oc11, od11, .func (PySem.W.fnOf "check_plan" "check_plan" (defArgs s_check_plan) (defBody s_check_plan) (defScope s_check_plan) .none kV11 dc11 pm11 an11 cd11 ct11), sl11⟩) (c11 : PySem.W.codeIn K cd11 "check_plan" = true) (k11 : PySem.W.keepIn K (.ref f11) = true)
    {f12 : Addr} {od12 an12 : Option Addr} {sl12 : Array (Option Value)} {oc12 kV12 dc12 pm12 cd12 ct12 : Value}
    (a12 : PySem.W.nsIn K mainGlobals "need_people" = some (some (.ref f12))) (l12 : K.lookup f12 = some ⟨oc12, od12, .func (PySem.W.fnOf "need_people" "need_people" (defArgs s_need_people) (defBody s_need_people) (defScope s_need_people) .none kV12 dc12 pm12 an12 cd12 ct12), sl12⟩) (c12 : PySem.W.codeIn K cd12 "need_people" = true) (k12 : PySem.W.keepIn K (.ref f12) = true)
    {f13 : Addr} {od13 an13 : Option Addr} {sl13 : Array (Option Value)} {oc13 kV13 dc13 pm13 cd13 ct13 : Value}
    (a13 : PySem.W.nsIn K mainGlobals "need_state" = some (some (.ref f13))) (l13 : K.lookup f13 = some ⟨oc13, od13, .func (PySem.W.fnOf "need_state" "need_state" (defArgs s_need_state) (defBody s_need_state) (defScope s_need_state) .none kV13 dc13 pm13 an13 cd13 ct13), sl13⟩) (c13 : PySem.W.codeIn K cd13 "need_state" = true) (k13 : PySem.W.keepIn K (.ref f13) = true)
    {f14 : Addr} {od14 an14 : Option Addr} {sl14 : Array (Option Value)} {oc14 kV14 dc14 pm14 cd14 ct14 : Value}
    (a14 : PySem.W.nsIn K mainGlobals "need_plan" = some (some (.ref f14))) (l14 : K.lookup f14 = some ⟨oc14, od14, .func (PySem.W.fnOf "need_plan" "need_plan" (defArgs s_need_plan) (defBody s_need_plan) (defScope s_need_plan) .none kV14 dc14 pm14 an14 cd14 ct14), sl14⟩) (c14 : PySem.W.codeIn K cd14 "need_plan" = true) (k14 : PySem.W.keepIn K (.ref f14) = true)
    {f15 : Addr} {od15 an15 : Option Addr} {sl15 : Array (Option Value)} {oc15 kV15 dc15 pm15 cd15 ct15 : Value}
    (a15 : PySem.W.nsIn K mainGlobals "possible_moves" = some (some (.ref f15))) (l15 : K.lookup f15 = some ⟨oc15, od15, .func (PySem.W.fnOf "possible_moves" "possible_moves" (defArgs s_possible_moves) (defBody s_possible_moves) (defScope s_possible_moves) .none kV15 dc15 pm15 an15 cd15 ct15), sl15⟩) (c15 : PySem.W.codeIn K cd15 "possible_moves" = true) (k15 : PySem.W.keepIn K (.ref f15) = true)
    {f16 : Addr} {od16 an16 : Option Addr} {sl16 : Array (Option Value)} {oc16 kV16 dc16 pm16 cd16 ct16 : Value}
    (a16 : PySem.W.nsIn K mainGlobals "played" = some (some (.ref f16))) (l16 : K.lookup f16 = some ⟨oc16, od16, .func (PySem.W.fnOf "played" "played" (defArgs s_played) (defBody s_played) (defScope s_played) .none kV16 dc16 pm16 an16 cd16 ct16), sl16⟩) (c16 : PySem.W.codeIn K cd16 "played" = true) (k16 : PySem.W.keepIn K (.ref f16) = true)
    {f17 : Addr} {od17 an17 : Option Addr} {sl17 : Array (Option Value)} {oc17 kV17 dc17 pm17 cd17 ct17 : Value}
    (a17 : PySem.W.nsIn K mainGlobals "play" = some (some (.ref f17))) (l17 : K.lookup f17 = some ⟨oc17, od17, .func (PySem.W.fnOf "play" "play" (defArgs s_play) (defBody s_play) (defScope s_play) .none kV17 dc17 pm17 an17 cd17 ct17), sl17⟩) (c17 : PySem.W.codeIn K cd17 "play" = true) (k17 : PySem.W.keepIn K (.ref f17) = true)
    {f18 : Addr} {od18 an18 : Option Addr} {sl18 : Array (Option Value)} {oc18 kV18 dc18 pm18 cd18 ct18 : Value}
    (a18 : PySem.W.nsIn K mainGlobals "_law_cell" = some (some (.ref f18))) (l18 : K.lookup f18 = some ⟨oc18, od18, .func (PySem.W.fnOf "_law_cell" "_law_cell" (defArgs s_l_cell) (defBody s_l_cell) (defScope s_l_cell) .none kV18 dc18 pm18 an18 cd18 ct18), sl18⟩) (c18 : PySem.W.codeIn K cd18 "_law_cell" = true) (k18 : PySem.W.keepIn K (.ref f18) = true)
    {f19 : Addr} {od19 an19 : Option Addr} {sl19 : Array (Option Value)} {oc19 kV19 dc19 pm19 cd19 ct19 : Value}
    (a19 : PySem.W.nsIn K mainGlobals "_law_hash" = some (some (.ref f19))) (l19 : K.lookup f19 = some ⟨oc19, od19, .func (PySem.W.fnOf "_law_hash" "_law_hash" (defArgs s_l_hash) (defBody s_l_hash) (defScope s_l_hash) .none kV19 dc19 pm19 an19 cd19 ct19), sl19⟩) (c19 : PySem.W.codeIn K cd19 "_law_hash" = true) (k19 : PySem.W.keepIn K (.ref f19) = true)
    {f20 : Addr} {od20 an20 : Option Addr} {sl20 : Array (Option Value)} {oc20 kV20 dc20 pm20 cd20 ct20 : Value}
    (a20 : PySem.W.nsIn K mainGlobals "_law_generator" = some (some (.ref f20))) (l20 : K.lookup f20 = some ⟨oc20, od20, .func (PySem.W.fnOf "_law_generator" "_law_generator" (defArgs s_l_generator) (defBody s_l_generator) (defScope s_l_generator) .none kV20 dc20 pm20 an20 cd20 ct20), sl20⟩) (c20 : PySem.W.codeIn K cd20 "_law_generator" = true) (k20 : PySem.W.keepIn K (.ref f20) = true)
    {f21 : Addr} {od21 an21 : Option Addr} {sl21 : Array (Option Value)} {oc21 kV21 dc21 pm21 cd21 ct21 : Value}
    (a21 : PySem.W.nsIn K mainGlobals "_law_random" = some (some (.ref f21))) (l21 : K.lookup f21 = some ⟨oc21, od21, .func (PySem.W.fnOf "_law_random" "_law_random" (defArgs s_l_random) (defBody s_l_random) (defScope s_l_random) .none kV21 dc21 pm21 an21 cd21 ct21), sl21⟩) (c21 : PySem.W.codeIn K cd21 "_law_random" = true) (k21 : PySem.W.keepIn K (.ref f21) = true)
    {f22 : Addr} {od22 an22 : Option Addr} {sl22 : Array (Option Value)} {oc22 kV22 dc22 pm22 cd22 ct22 : Value}
    (a22 : PySem.W.nsIn K mainGlobals "_law_shuffled" = some (some (.ref f22))) (l22 : K.lookup f22 = some ⟨oc22, od22, .func (PySem.W.fnOf "_law_shuffled" "_law_shuffled" (defArgs s_l_shuffled) (defBody s_l_shuffled) (defScope s_l_shuffled) .none kV22 dc22 pm22 an22 cd22 ct22), sl22⟩) (c22 : PySem.W.codeIn K cd22 "_law_shuffled" = true) (k22 : PySem.W.keepIn K (.ref f22) = true)
    {f23 : Addr} {od23 an23 : Option Addr} {sl23 : Array (Option Value)} {oc23 kV23 dc23 pm23 cd23 ct23 : Value}
    (a23 : PySem.W.nsIn K mainGlobals "_law_random_house" = some (some (.ref f23))) (l23 : K.lookup f23 = some ⟨oc23, od23, .func (PySem.W.fnOf "_law_random_house" "_law_random_house" (defArgs s_l_random_house) (defBody s_l_random_house) (defScope s_l_random_house) .none kV23 dc23 pm23 an23 cd23 ct23), sl23⟩) (c23 : PySem.W.codeIn K cd23 "_law_random_house" = true) (k23 : PySem.W.keepIn K (.ref f23) = true)
    {f24 : Addr} {od24 an24 : Option Addr} {sl24 : Array (Option Value)} {oc24 kV24 dc24 pm24 cd24 ct24 : Value}
    (a24 : PySem.W.nsIn K mainGlobals "_law_random_state" = some (some (.ref f24))) (l24 : K.lookup f24 = some ⟨oc24, od24, .func (PySem.W.fnOf "_law_random_state" "_law_random_state" (defArgs s_l_random_state) (defBody s_l_random_state) (defScope s_l_random_state) .none kV24 dc24 pm24 an24 cd24 ct24), sl24⟩) (c24 : PySem.W.codeIn K cd24 "_law_random_state" = true) (k24 : PySem.W.keepIn K (.ref f24) = true)
    {f25 : Addr} {od25 an25 : Option Addr} {sl25 : Array (Option Value)} {oc25 kV25 dc25 pm25 cd25 ct25 : Value}
    (a25 : PySem.W.nsIn K mainGlobals "_law_neighbours" = some (some (.ref f25))) (l25 : K.lookup f25 = some ⟨oc25, od25, .func (PySem.W.fnOf "_law_neighbours" "_law_neighbours" (defArgs s_l_neighbours) (defBody s_l_neighbours) (defScope s_l_neighbours) .none kV25 dc25 pm25 an25 cd25 ct25), sl25⟩) (c25 : PySem.W.codeIn K cd25 "_law_neighbours" = true) (k25 : PySem.W.keepIn K (.ref f25) = true)
    {f26 : Addr} {od26 an26 : Option Addr} {sl26 : Array (Option Value)} {oc26 kV26 dc26 pm26 cd26 ct26 : Value}
    (a26 : PySem.W.nsIn K mainGlobals "_law_moved" = some (some (.ref f26))) (l26 : K.lookup f26 = some ⟨oc26, od26, .func (PySem.W.fnOf "_law_moved" "_law_moved" (defArgs s_l_moved) (defBody s_l_moved) (defScope s_l_moved) .none kV26 dc26 pm26 an26 cd26 ct26), sl26⟩) (c26 : PySem.W.codeIn K cd26 "_law_moved" = true) (k26 : PySem.W.keepIn K (.ref f26) = true)
    {f27 : Addr} {od27 an27 : Option Addr} {sl27 : Array (Option Value)} {oc27 kV27 dc27 pm27 cd27 ct27 : Value}
    (a27 : PySem.W.nsIn K mainGlobals "_law_steps" = some (some (.ref f27))) (l27 : K.lookup f27 = some ⟨oc27, od27, .func (PySem.W.fnOf "_law_steps" "_law_steps" (defArgs s_l_steps) (defBody s_l_steps) (defScope s_l_steps) .none kV27 dc27 pm27 an27 cd27 ct27), sl27⟩) (c27 : PySem.W.codeIn K cd27 "_law_steps" = true) (k27 : PySem.W.keepIn K (.ref f27) = true)
    {f28 : Addr} {od28 an28 : Option Addr} {sl28 : Array (Option Value)} {oc28 kV28 dc28 pm28 cd28 ct28 : Value}
    (a28 : PySem.W.nsIn K mainGlobals "_law_random_steps" = some (some (.ref f28))) (l28 : K.lookup f28 = some ⟨oc28, od28, .func (PySem.W.fnOf "_law_random_steps" "_law_random_steps" (defArgs s_l_random_steps) (defBody s_l_random_steps) (defScope s_l_random_steps) .none kV28 dc28 pm28 an28 cd28 ct28), sl28⟩) (c28 : PySem.W.codeIn K cd28 "_law_random_steps" = true) (k28 : PySem.W.keepIn K (.ref f28) = true)
    {f29 : Addr} {od29 an29 : Option Addr} {sl29 : Array (Option Value)} {oc29 kV29 dc29 pm29 cd29 ct29 : Value}
    (a29 : PySem.W.nsIn K mainGlobals "_law_every_step" = some (some (.ref f29))) (l29 : K.lookup f29 = some ⟨oc29, od29, .func (PySem.W.fnOf "_law_every_step" "_law_every_step" (defArgs s_l_every_step) (defBody s_l_every_step) (defScope s_l_every_step) .none kV29 dc29 pm29 an29 cd29 ct29), sl29⟩) (c29 : PySem.W.codeIn K cd29 "_law_every_step" = true) (k29 : PySem.W.keepIn K (.ref f29) = true)
    {f30 : Addr} {od30 an30 : Option Addr} {sl30 : Array (Option Value)} {oc30 kV30 dc30 pm30 cd30 ct30 : Value}
    (a30 : PySem.W.nsIn K mainGlobals "_law_expected" = some (some (.ref f30))) (l30 : K.lookup f30 = some ⟨oc30, od30, .func (PySem.W.fnOf "_law_expected" "_law_expected" (defArgs s_l_expected) (defBody s_l_expected) (defScope s_l_expected) .none kV30 dc30 pm30 an30 cd30 ct30), sl30⟩) (c30 : PySem.W.codeIn K cd30 "_law_expected" = true) (k30 : PySem.W.keepIn K (.ref f30) = true)
    {f31 : Addr} {od31 an31 : Option Addr} {sl31 : Array (Option Value)} {oc31 kV31 dc31 pm31 cd31 ct31 : Value}
    (a31 : PySem.W.nsIn K mainGlobals "_law_result" = some (some (.ref f31))) (l31 : K.lookup f31 = some ⟨oc31, od31, .func (PySem.W.fnOf "_law_result" "_law_result" (defArgs s_l_result) (defBody s_l_result) (defScope s_l_result) .none kV31 dc31 pm31 an31 cd31 ct31), sl31⟩) (c31 : PySem.W.codeIn K cd31 "_law_result" = true) (k31 : PySem.W.keepIn K (.ref f31) = true)
    {f32 : Addr} {od32 an32 : Option Addr} {sl32 : Array (Option Value)} {oc32 kV32 dc32 pm32 cd32 ct32 : Value}
    (a32 : PySem.W.nsIn K mainGlobals "_law_reason" = some (some (.ref f32))) (l32 : K.lookup f32 = some ⟨oc32, od32, .func (PySem.W.fnOf "_law_reason" "_law_reason" (defArgs s_l_reason) (defBody s_l_reason) (defScope s_l_reason) .none kV32 dc32 pm32 an32 cd32 ct32), sl32⟩) (c32 : PySem.W.codeIn K cd32 "_law_reason" = true) (k32 : PySem.W.keepIn K (.ref f32) = true)
    {f33 : Addr} {od33 an33 : Option Addr} {sl33 : Array (Option Value)} {oc33 kV33 dc33 pm33 cd33 ct33 : Value}
    (a33 : PySem.W.nsIn K mainGlobals "_law_right" = some (some (.ref f33))) (l33 : K.lookup f33 = some ⟨oc33, od33, .func (PySem.W.fnOf "_law_right" "_law_right" (defArgs s_l_right) (defBody s_l_right) (defScope s_l_right) .none kV33 dc33 pm33 an33 cd33 ct33), sl33⟩) (c33 : PySem.W.codeIn K cd33 "_law_right" = true) (k33 : PySem.W.keepIn K (.ref f33) = true)
    {f34 : Addr} {od34 an34 : Option Addr} {sl34 : Array (Option Value)} {oc34 kV34 dc34 pm34 cd34 ct34 : Value}
    (a34 : PySem.W.nsIn K mainGlobals "law" = some (some (.ref f34))) (l34 : K.lookup f34 = some ⟨oc34, od34, .func (PySem.W.fnOf "law" "law" (defArgs s_law) (defBody s_law) (defScope s_law) .none kV34 dc34 pm34 an34 cd34 ct34), sl34⟩) (c34 : PySem.W.codeIn K cd34 "law" = true) (k34 : PySem.W.keepIn K (.ref f34) = true)
    (z0 : PySem.W.nsIn K mainGlobals "len" = some none)
    (z1 : PySem.W.nsIn K mainGlobals "isinstance" = some none)
    (z2 : PySem.W.nsIn K mainGlobals "enumerate" = some none)
    (z3 : PySem.W.nsIn K mainGlobals "range" = some none)
    (z4 : PySem.W.nsIn K mainGlobals "list" = some none)
    (z5 : PySem.W.nsIn K mainGlobals "set" = some none)
    (z6 : PySem.W.nsIn K mainGlobals "sorted" = some none)
    (z7 : PySem.W.nsIn K mainGlobals "max" = some none)
    (z8 : PySem.W.nsIn K mainGlobals "min" = some none)
    (z9 : PySem.W.nsIn K mainGlobals "tuple" = some none)
    (z10 : PySem.W.nsIn K mainGlobals "int" = some none)
    (z11 : PySem.W.nsIn K mainGlobals "bool" = some none)
    {CL : Addr} (gl : PySem.W.nsIn K mainGlobals "LastThroughError" = some (some (.ref CL))) (el : PySem.W.subIn K (.ref CL) (.type "BaseException") = some true) (dl : PySem.W.hasDictIn K CL = true) (tl : PySem.W.typeIn K (.ref CL) = some (.type "type"))
    {CI fI TI NI : Addr} {nmI qI : Str} {bsI : List Value} {snI : List Str} {subI : List Value} {abI : Bool} {colI : Option Bool} {ddI odI anI otI : Option Addr} {uI vI wI xI yI : Option Value} {ocI kVI dcI pmI cdI ctI tcI : Value} {slI stI : Array (Option Value)} {ntI : Nat}
    (gI : PySem.W.nsIn K mainGlobals "InvalidPlan" = some (some (.ref CI)))
    (xI : K.lookup CI = some (excClassObj nmI qI CI NI bsI (.ref CL :: PySem.HandSPX.veTail) true snI subI abI colI ddI uI vI wI xI yI "ValueError.__new__"))
    (saI : PySem.W.findIn K (.ref CI) "__setattr__" = some (some (.builtin "object.__setattr__")))
    (gaI : PySem.W.findIn K (.ref CI) "__getattribute__" = some (some (.builtin "BaseException.__getattribute__")))
    (ggI : PySem.W.findIn K (.ref CI) "__getattr__" = some none)
    (nrI : PySem.W.findIn K (.ref CI) "reason" = some none)
    (iI : PySem.W.findIn K (.ref CI) "__init__" = some (some (.ref fI)))
    (tI : PySem.W.typeIn K (.ref fI) = some (.type "function"))
    (lI : K.lookup fI = some ⟨ocI, odI, .func (PySem.W.fnOf "__init__" "InvalidPlan.__init__" (defArgs s_ip) (defBody s_ip) (defScope s_ip) (.ref TI) kVI dcI pmI anI cdI ctI), slI⟩)
    (cI : PySem.W.codeIn K cdI "InvalidPlan.__init__" = true)
    (kI : PySem.W.keepIn K (.ref fI) = true)
    (pI : K.lookup TI = some ⟨tcI, otI, .seq [Value.none].toArray ntI, stI⟩)
    (kcI : PySem.W.keepIn K (.ref CI) = true)
    (eI : PySem.W.subIn K (.ref CI) (.type "BaseException") = some true)
    (tyI : PySem.W.typeIn K (.ref CI) = some (.type "type"))
    (hdI : PySem.W.hasDictIn K CI = true)
    (sI : PySem.W.subIn K (.ref CI) (.ref CL) = some true)
    {CM fM TM NM : Addr} {nmM qM : Str} {bsM : List Value} {snM : List Str} {subM : List Value} {abM : Bool} {colM : Option Bool} {ddM odM anM otM : Option Addr} {uM vM wM xM yM : Option Value} {ocM kVM dcM pmM cdM ctM tcM : Value} {slM stM : Array (Option Value)} {ntM : Nat}
    (gM : PySem.W.nsIn K mainGlobals "MoveBlocked" = some (some (.ref CM)))
    (xM : K.lookup CM = some (excClassObj nmM qM CM NM bsM (.ref CL :: PySem.HandSPX.veTail) true snM subM abM colM ddM uM vM wM xM yM "ValueError.__new__"))
    (saM : PySem.W.findIn K (.ref CM) "__setattr__" = some (some (.builtin "object.__setattr__")))
    (gaM : PySem.W.findIn K (.ref CM) "__getattribute__" = some (some (.builtin "BaseException.__getattribute__")))
    (ggM : PySem.W.findIn K (.ref CM) "__getattr__" = some none)
    (nrM : PySem.W.findIn K (.ref CM) "reason" = some none)
    (niM : PySem.W.findIn K (.ref CM) "index" = some none)
    (iM : PySem.W.findIn K (.ref CM) "__init__" = some (some (.ref fM)))
    (tM : PySem.W.typeIn K (.ref fM) = some (.type "function"))
    (lM : K.lookup fM = some ⟨ocM, odM, .func (PySem.W.fnOf "__init__" "MoveBlocked.__init__" (defArgs s_mb) (defBody s_mb) (defScope s_mb) (.ref TM) kVM dcM pmM anM cdM ctM), slM⟩)
    (cM : PySem.W.codeIn K cdM "MoveBlocked.__init__" = true)
    (kM : PySem.W.keepIn K (.ref fM) = true)
    (pM : K.lookup TM = some ⟨tcM, otM, .seq [Value.none, Value.none].toArray ntM, stM⟩)
    (kcM : PySem.W.keepIn K (.ref CM) = true)
    (eM : PySem.W.subIn K (.ref CM) (.type "BaseException") = some true)
    (tyM : PySem.W.typeIn K (.ref CM) = some (.type "type"))
    (hdM : PySem.W.hasDictIn K CM = true)
    (sM : PySem.W.subIn K (.ref CM) (.ref CM) = some true)
    : ∃ fd : FuncData, (∀ (s : Shared) (v : Value), BindsTo s fd ⟨[v], []⟩ [("_law_script", v)]) ∧ ∀ base : Heap, K.In base → base.Ns mainGlobals mg → FnOk l.prog w K mg base CX0 11 fa fd ["_law_script"] (spLaw K) := by
  have e := hfa.symm.trans (PySem.W.mg_of X G a34)
  cases e
  have T : Bl mg := ⟨PySem.W.mg_none_of X G z0, PySem.W.mg_none_of X G z1, PySem.W.mg_none_of X G z2, PySem.W.mg_none_of X G z3, PySem.W.mg_none_of X G z4, PySem.W.mg_none_of X G z5, PySem.W.mg_none_of X G z6, PySem.W.mg_none_of X G z7, PySem.W.mg_none_of X G z8, PySem.W.mg_none_of X G z9, PySem.W.mg_none_of X G z10, PySem.W.mg_none_of X G z11⟩
  have D_is_whole : Def K mg "is_whole" s_is_whole := def_mk X G a0 l0 c0 k0
  have D_is_index : Def K mg "is_index" s_is_index := def_mk X G a1 l1 c1 k1
  have D_is_door : Def K mg "is_door" s_is_door := def_mk X G a2 l2 c2 k2
  have D_check_house : Def K mg "check_house" s_check_house := def_mk X G a3 l3 c3 k3
  have D_first_ring : Def K mg "first_ring" s_first_ring := def_mk X G a4 l4 c4 k4
  have D_find_root : Def K mg "find_root" s_find_root := def_mk X G a5 l5 c5 k5
  have D_need_house : Def K mg "need_house" s_need_house := def_mk X G a6 l6 c6 k6
  have D_doors_by_ends : Def K mg "doors_by_ends" s_doors_by_ends := def_mk X G a7 l7 c7 k7
  have D_has_state_shape : Def K mg "has_state_shape" s_has_state_shape := def_mk X G a8 l8 c8 k8
  have D_check_state : Def K mg "check_state" s_check_state := def_mk X G a9 l9 c9 k9
  have D_is_move : Def K mg "is_move" s_is_move := def_mk X G a10 l10 c10 k10
  have D_check_plan : Def K mg "check_plan" s_check_plan := def_mk X G a11 l11 c11 k11
  have D_need_people : Def K mg "need_people" s_need_people := def_mk X G a12 l12 c12 k12
  have D_need_state : Def K mg "need_state" s_need_state := def_mk X G a13 l13 c13 k13
  have D_need_plan : Def K mg "need_plan" s_need_plan := def_mk X G a14 l14 c14 k14
  have D_possible_moves : Def K mg "possible_moves" s_possible_moves := def_mk X G a15 l15 c15 k15
  have D_played : Def K mg "played" s_played := def_mk X G a16 l16 c16 k16
  have D_play : Def K mg "play" s_play := def_mk X G a17 l17 c17 k17
  have D_l_cell : Def K mg "_law_cell" s_l_cell := def_mk X G a18 l18 c18 k18
  have D_l_hash : Def K mg "_law_hash" s_l_hash := def_mk X G a19 l19 c19 k19
  have D_l_generator : Def K mg "_law_generator" s_l_generator := def_mk X G a20 l20 c20 k20
  have D_l_random : Def K mg "_law_random" s_l_random := def_mk X G a21 l21 c21 k21
  have D_l_shuffled : Def K mg "_law_shuffled" s_l_shuffled := def_mk X G a22 l22 c22 k22
  have D_l_random_house : Def K mg "_law_random_house" s_l_random_house := def_mk X G a23 l23 c23 k23
  have D_l_random_state : Def K mg "_law_random_state" s_l_random_state := def_mk X G a24 l24 c24 k24
  have D_l_neighbours : Def K mg "_law_neighbours" s_l_neighbours := def_mk X G a25 l25 c25 k25
  have D_l_moved : Def K mg "_law_moved" s_l_moved := def_mk X G a26 l26 c26 k26
  have D_l_steps : Def K mg "_law_steps" s_l_steps := def_mk X G a27 l27 c27 k27
  have D_l_random_steps : Def K mg "_law_random_steps" s_l_random_steps := def_mk X G a28 l28 c28 k28
  have D_l_every_step : Def K mg "_law_every_step" s_l_every_step := def_mk X G a29 l29 c29 k29
  have D_l_expected : Def K mg "_law_expected" s_l_expected := def_mk X G a30 l30 c30 k30
  have D_l_result : Def K mg "_law_result" s_l_result := def_mk X G a31 l31 c31 k31
  have D_l_reason : Def K mg "_law_reason" s_l_reason := def_mk X G a32 l32 c32 k32
  have D_l_right : Def K mg "_law_right" s_l_right := def_mk X G a33 l33 c33 k33
  have exI : ErrC K mg "InvalidPlan" CI fI := ⟨PySem.W.mg_of X G gI, ⟨⟨_, _, _, _, _, _, _, _, _, _, _, _, _, _, _, xI, by rfl⟩, saI, eI, tyI, kcI⟩, ⟨gaI, ggI, eI, hdI⟩, iI, tI, nrI⟩
  have FI : FunD K "__init__" "InvalidPlan.__init__" (defArgs s_ip) (defBody s_ip) (defScope s_ip) [.non] [] fI _ := ⟨⟨ocI, odI, .ref TI, kVI, dcI, pmI, anI, cdI, ctI, slI, rfl, lI, cI, .inr ⟨by simp, TI, _, [Value.none], ntI, rfl, pI, rfl, .cons rfl .nil⟩, .inl rfl⟩, kI⟩
  have exM : ErrC K mg "MoveBlocked" CM fM := ⟨PySem.W.mg_of X G gM, ⟨⟨_, _, _, _, _, _, _, _, _, _, _, _, _, _, _, xM, by rfl⟩, saM, eM, tyM, kcM⟩, ⟨gaM, ggM, eM, hdM⟩, iM, tM, nrM⟩
  have FM : FunD K "__init__" "MoveBlocked.__init__" (defArgs s_mb) (defBody s_mb) (defScope s_mb) [.non, .non] [] fM _ := ⟨⟨ocM, odM, .ref TM, kVM, dcM, pmM, anM, cdM, ctM, slM, rfl, lM, cM, .inr ⟨by simp, TM, _, [Value.none, Value.none], ntM, rfl, pM, rfl, .cons rfl (.cons rfl .nil)⟩, .inl rfl⟩, kM⟩
  have noI := niM
  have xM := PySem.W.exm_ref eM hdM tyM sM
  have xI := PySem.W.exm_ref el dl tl sI
  have gL := PySem.W.mg_of X G gl
  refine ⟨PySem.W.fnOf "law" "law" (defArgs s_law) (defBody s_law) (defScope s_law) .none kV34 dc34 pm34 an34 cd34 ct34, fun s v => .of_eq rfl, fun base _ _ => ?_⟩
  have EI : ErrOk l.prog w K mg base "InvalidPlan" CI ["self", "reason"] (spIp CI) := ⟨_, _, exI, ok_ip exI FI, b_ip FI⟩
  have EM : ErrOk l.prog w K mg base "MoveBlocked" CM ["self", "index", "reason"] (spMb CM) := ⟨_, _, exM, ok_mb exM niM FM, b_mb FM⟩
  have C_is_whole : Cal l.prog w K mg base "is_whole" ["value"] 1 spWhole := ok_is_whole T D_is_whole
  have C_is_index : Cal l.prog w K mg base "is_index" ["value", "count"] 2 spIndex := ok_is_index T D_is_index C_is_whole
  have C_is_door : Cal l.prog w K mg base "is_door" ["value", "count"] 3 (spDoor K) := ok_is_door T D_is_door C_is_index
  have C_find_root : Cal l.prog w K mg base "find_root" ["links", "room"] 1 spFind := ok_find_root T D_find_root
  have C_doors_by_ends : Cal l.prog w K mg base "doors_by_ends" ["house"] 1 (spDoors K) := ok_doors_by_ends T D_doors_by_ends
  have C_has_state_shape : Cal l.prog w K mg base "has_state_shape" ["house", "value"] 1 (spShape K) := ok_has_state_shape T D_has_state_shape
  have C_is_move : Cal l.prog w K mg base "is_move" ["doors", "people", "value"] 3 spMove := ok_is_move T D_is_move C_is_whole C_is_index
  have C_need_people : Cal l.prog w K mg base "need_people" ["people"] 2 spPeople := ok_need_people T D_need_people C_is_whole
  have C_played : CalX l.prog w K mg base "played" ["doors", "state", "plan"] 3 (spPlayed K CM) := ok_played T EM D_played
  have C_l_cell : Cal l.prog w K mg base "_law_cell" ["_law_script", "_law_index"] 1 (spCell K) := ok_cell T D_l_cell
  have C_l_hash : Cal l.prog w K mg base "_law_hash" ["_law_seed", "_law_index"] 1 spHash := ok_hash T D_l_hash
  have C_l_generator : Cal l.prog w K mg base "_law_generator" ["_law_script", "_law_index"] 2 (spGen K) := ok_generator T D_l_generator C_l_cell
  have C_l_random : Cal l.prog w K mg base "_law_random" ["_law_generator_here", "_law_bound"] 2 spRand := ok_random T D_l_random C_l_hash
  have C_l_shuffled : Cal l.prog w K mg base "_law_shuffled" ["_law_generator_here", "_law_items"] 3 (spShuf K) := ok_shuffled T D_l_shuffled C_l_random
  have C_l_random_house : Cal l.prog w K mg base "_law_random_house" ["_law_generator_here", "_law_most"] 4 (spHouse K) := ok_random_house T D_l_random_house C_l_random C_l_shuffled
  have C_l_random_state : Cal l.prog w K mg base "_law_random_state" ["_law_generator_here", "_law_doors", "_law_people"] 3 (spRState K) := ok_random_state T D_l_random_state C_l_random
  have C_l_neighbours : Cal l.prog w K mg base "_law_neighbours" ["_law_doors", "_law_place"] 1 (spNeigh K) := ok_neighbours T D_l_neighbours
  have C_l_moved : Cal l.prog w K mg base "_law_moved" ["_law_doors", "_law_position", "_law_step"] 2 (spMoved K) := ok_moved T D_l_moved C_l_neighbours
  have C_l_steps : Cal l.prog w K mg base "_law_steps" ["_law_doors", "_law_position"] 2 (spPoss K) := ok_steps T D_l_steps C_l_neighbours
  have C_l_random_steps : Cal l.prog w K mg base "_law_random_steps" ["_law_generator_here", "_law_doors", "_law_position", "_law_most"] 3 (spRSteps K) := ok_random_steps T D_l_random_steps C_l_random C_l_steps C_l_moved
  have C_l_every_step : Cal l.prog w K mg base "_law_every_step" ["_law_doors", "_law_people"] 1 (spEvery K) := ok_every_step T D_l_every_step
  have C_l_expected : Cal l.prog w K mg base "_law_expected" ["_law_doors", "_law_position", "_law_steps_here"] 3 (spExp K) := ok_expected T D_l_expected C_l_moved
  have C_first_ring : Cal l.prog w K mg base "first_ring" ["doors"] 2 (spRing K) := ok_first_ring T D_first_ring C_find_root
  have C_check_house : Cal l.prog w K mg base "check_house" ["value"] 4 (spRing K) := ok_check_house T D_check_house C_is_door C_first_ring
  have C_need_house : Cal l.prog w K mg base "need_house" ["house"] 5 (spRing K) := ok_need_house T D_need_house C_check_house
  have C_check_state : Cal l.prog w K mg base "check_state" ["house", "value"] 6 (spSt K) := ok_check_state T D_check_state C_need_house C_has_state_shape C_is_index
  have C_check_plan : Cal l.prog w K mg base "check_plan" ["house", "people", "value"] 6 (spPlan K) := ok_check_plan T D_check_plan C_need_house C_need_people C_doors_by_ends C_is_move
  have C_need_state : Cal l.prog w K mg base "need_state" ["house", "state"] 7 (spSt K) := ok_need_state T D_need_state C_check_state
  have C_need_plan : CalX l.prog w K mg base "need_plan" ["house", "people", "plan"] 7 (spNeedPlan K CI) := ok_need_plan T EI D_need_plan C_check_plan
  have C_possible_moves : Cal l.prog w K mg base "possible_moves" ["house", "state"] 8 (spPoss K) := ok_possible_moves T D_possible_moves C_need_state
  have C_play : CalX l.prog w K mg base "play" ["house", "state", "plan"] 8 (spPlay K CI CM) := ok_play T D_play C_need_state C_need_plan C_doors_by_ends C_played
  have C_l_result : Cal l.prog w K mg base "_law_result" ["_law_doors", "_law_position", "_law_steps_here"] 9 (spResult K) := ok_result T EM noI xM D_l_result C_play
  have C_l_reason : Cal l.prog w K mg base "_law_reason" ["_law_doors", "_law_position", "_law_steps_here"] 9 (spReason K) := ok_reason T EI gL xI D_l_reason C_play
  have C_l_right : Cal l.prog w K mg base "_law_right" ["_law_generator_here", "_law_doors", "_law_position"] 10 (spRight K) := ok_right T D_l_right C_l_random_steps C_play C_l_every_step C_l_random C_l_result C_l_expected C_l_reason C_possible_moves C_l_steps
  exact ok_law T (fun_mk (st := s_law) l34 c34 k34) C_l_generator C_l_random_house C_l_random_state C_l_random C_l_right
end K5

open PySem PySem.W PyProof.Rows
set_option maxHeartbeats 0 in
theorem PySem.Challenge.cw_lastthrough_k06_moves_and_plans_holds : PySem.Challenge.rw_lastthrough_k06_moves_and_plans.Holds := by
  w_on; o_law; k_head; (case hw => w_witness2)
  k_fill
  refine L2.walk_of (l := PySem.Challenge.rw_lastthrough_k06_moves_and_plans) (n := 63) (k := 11) (x := "_law_script") (CX := fun _ => L2.CX0) (sp := fun w => K5.spLaw _) rfl (by decide) rfl ⟨rfl, by decide, by decide⟩ (fun w h Y => PySem.W.kIn_of Y) ?F (fun _ _ a ns hl _ hS => ⟨a, ns, rfl, hS, hl, fun _ => rfl⟩) (fun _ _ _ _ _ h => h)
  case F =>
    intro w mg fa h KX G hmg
    refine' K5.all_mk KX G hmg ?a0 ?l0 ?c0 ?k0 ?a1 ?l1 ?c1 ?k1 ?a2 ?l2 ?c2 ?k2 ?a3 ?l3 ?c3 ?k3 ?a4 ?l4 ?c4 ?k4 ?a5 ?l5 ?c5 ?k5 ?a6 ?l6 ?c6 ?k6 ?a7 ?l7 ?c7 ?k7 ?a8 ?l8 ?c8 ?k8 ?a9 ?l9 ?c9 ?k9 ?a10 ?l10 ?c10 ?k10 ?a11 ?l11 ?c11 ?k11 ?a12 ?l12 ?c12 ?k12 ?a13 ?l13 ?c13 ?k13 ?a14 ?l14 ?c14 ?k14 ?a15 ?l15 ?c15 ?k15 ?a16 ?l16 ?c16 ?k16 ?a17 ?l17 ?c17 ?k17 ?a18 ?l18 ?c18 ?k18 ?a19 ?l19 ?c19 ?k19 ?a20 ?l20 ?c20 ?k20 ?a21 ?l21 ?c21 ?k21 ?a22 ?l22 ?c22 ?k22 ?a23 ?l23 ?c23 ?k23 ?a24 ?l24 ?c24 ?k24 ?a25 ?l25 ?c25 ?k25 ?a26 ?l26 ?c26 ?k26 ?a27 ?l27 ?c27 ?k27 ?a28 ?l28 ?c28 ?k28 ?a29 ?l29 ?c29 ?k29 ?a30 ?l30 ?c30 ?k30 ?a31 ?l31 ?c31 ?k31 ?a32 ?l32 ?c32 ?k32 ?a33 ?l33 ?c33 ?k33 ?a34 ?l34 ?c34 ?k34 ?z0 ?z1 ?z2 ?z3 ?z4 ?z5 ?z6 ?z7 ?z8 ?z9 ?z10 ?z11 ?gl ?el ?dl ?tl ?gI ?xI ?saI ?gaI ?ggI ?nrI ?iI ?tI ?lI ?cI ?kI ?pI ?kcI ?eI ?tyI ?hdI ?sI ?gM ?xM ?saM ?gaM ?ggM ?nrM ?niM ?iM ?tM ?lM ?cM ?kM ?pM ?kcM ?eM ?tyM ?hdM ?sM
    (case a0 => k_is)
    (case l0 => k_is)
    (case c0 => k_is)
    (case k0 => k_is)
    (case a1 => k_is)
    (case l1 => k_is)
    (case c1 => k_is)
    (case k1 => k_is)
    (case a2 => k_is)
    (case l2 => k_is)
    (case c2 => k_is)
    (case k2 => k_is)
    (case a3 => k_is)
    (case l3 => k_is)
    (case c3 => k_is)
    (case k3 => k_is)
    (case a4 => k_is)
    (case l4 => k_is)
    (case c4 => k_is)
    (case k4 => k_is)
    (case a5 => k_is)
    (case l5 => k_is)
    (case c5 => k_is)
    (case k5 => k_is)
    (case a6 => k_is)
    (case l6 => k_is)
    (case c6 => k_is)
    (case k6 => k_is)
    (case a7 => k_is)
    (case l7 => k_is)
    (case c7 => k_is)
    (case k7 => k_is)
    (case a8 => k_is)
    (case l8 => k_is)
    (case c8 => k_is)
    (case k8 => k_is)
    (case a9 => k_is)
    (case l9 => k_is)
    (case c9 => k_is)
    (case k9 => k_is)
    (case a10 => k_is)
    (case l10 => k_is)
    (case c10 => k_is)
    (case k10 => k_is)
    (case a11 => k_is)
    (case l11 => k_is)
    (case c11 => k_is)
    (case k11 => k_is)
    (case a12 => k_is)
    (case l12 => k_is)
    (case c12 => k_is)
    (case k12 => k_is)
    (case a13 => k_is)
    (case l13 => k_is)
    (case c13 => k_is)
    (case k13 => k_is)
    (case a14 => k_is)
    (case l14 => k_is)
    (case c14 => k_is)
    (case k14 => k_is)
    (case a15 => k_is)
    (case l15 => k_is)
    (case c15 => k_is)
    (case k15 => k_is)
    (case a16 => k_is)
    (case l16 => k_is)
    (case c16 => k_is)
    (case k16 => k_is)
    (case a17 => k_is)
    (case l17 => k_is)
    (case c17 => k_is)
    (case k17 => k_is)
    (case a18 => k_is)
    (case l18 => k_is)
    (case c18 => k_is)
    (case k18 => k_is)
    (case a19 => k_is)
    (case l19 => k_is)
    (case c19 => k_is)
    (case k19 => k_is)
    (case a20 => k_is)
    (case l20 => k_is)
    (case c20 => k_is)
    (case k20 => k_is)
    (case a21 => k_is)
    (case l21 => k_is)
    (case c21 => k_is)
    (case k21 => k_is)
    (case a22 => k_is)
    (case l22 => k_is)
    (case c22 => k_is)
    (case k22 => k_is)
    (case a23 => k_is)
    (case l23 => k_is)
    (case c23 => k_is)
    (case k23 => k_is)
    (case a24 => k_is)
    (case l24 => k_is)
    (case c24 => k_is)
    (case k24 => k_is)
    (case a25 => k_is)
    (case l25 => k_is)
    (case c25 => k_is)
    (case k25 => k_is)
    (case a26 => k_is)
    (case l26 => k_is)
    (case c26 => k_is)
    (case k26 => k_is)
    (case a27 => k_is)
    (case l27 => k_is)
    (case c27 => k_is)
    (case k27 => k_is)
    (case a28 => k_is)
    (case l28 => k_is)
    (case c28 => k_is)
    (case k28 => k_is)
    (case a29 => k_is)
    (case l29 => k_is)
    (case c29 => k_is)
    (case k29 => k_is)
    (case a30 => k_is)
    (case l30 => k_is)
    (case c30 => k_is)
    (case k30 => k_is)
    (case a31 => k_is)
    (case l31 => k_is)
    (case c31 => k_is)
    (case k31 => k_is)
    (case a32 => k_is)
    (case l32 => k_is)
    (case c32 => k_is)
    (case k32 => k_is)
    (case a33 => k_is)
    (case l33 => k_is)
    (case c33 => k_is)
    (case k33 => k_is)
    (case a34 => k_is)
    (case l34 => k_is)
    (case c34 => k_is)
    (case k34 => k_is)
    (case z0 => k_is)
    (case z1 => k_is)
    (case z2 => k_is)
    (case z3 => k_is)
    (case z4 => k_is)
    (case z5 => k_is)
    (case z6 => k_is)
    (case z7 => k_is)
    (case z8 => k_is)
    (case z9 => k_is)
    (case z10 => k_is)
    (case z11 => k_is)
    (case gl => k_is)
    (case el => k_is)
    (case dl => k_is)
    (case tl => k_is)
    (case gI => k_is)
    (case xI => k_is)
    (case saI => k_is)
    (case gaI => k_is)
    (case ggI => k_is)
    (case nrI => k_is)
    (case iI => k_is)
    (case tI => k_is)
    (case lI => k_is)
    (case cI => k_is)
    (case kI => k_is)
    (case pI => k_is)
    (case kcI => k_is)
    (case eI => k_is)
    (case tyI => k_is)
    (case hdI => k_is)
    (case sI => first | k_is | rfl)
    (case gM => k_is)
    (case xM => k_is)
    (case saM => k_is)
    (case gaM => k_is)
    (case ggM => k_is)
    (case nrM => k_is)
    (case niM => k_is)
    (case iM => k_is)
    (case tM => k_is)
    (case lM => k_is)
    (case cM => k_is)
    (case kM => k_is)
    (case pM => k_is)
    (case kcM => k_is)
    (case eM => k_is)
    (case tyM => k_is)
    (case hdM => k_is)
    (case sM => first | k_is | rfl)

