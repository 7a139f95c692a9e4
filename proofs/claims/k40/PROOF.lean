import PyProof.Rows.All
import Wide.All
import OpenK.AllK
import Wide.FinOn
import HandS.ForMost
import HandS.Walk
import HandS.IsInst
import HandS.Conv
import HandS.Strs
import HandS.Style
import HandS.Sort
import HandS.SortRule
import HandS.Wide
import HandS.WideBits
import HandS.TupAny
import KE.GoesMore
import KE.GoesEnum
import KE.GoesNew
import HandS.ForExc
import HandS.ExcInit
import HandS.ExcField
import HandS.ExcIs
import HandS.TupSets
import HandS.Evl
import HandS.NoneIn
import HandS.SortKw
import PySem.Challenge.RW_lastthrough_k40_kept_bits
set_option Elab.async false
set_option linter.all false
set_option maxRecDepth 100000
set_option maxHeartbeats 4000000
/-! trees: the mathematics -/
namespace K5
/-- doors es, each (parent, child), children all different; a bridge each; all connected -/
structure Tr0 (n : Nat) (es : List (Nat × Nat)) : Prop where
  len : es.length + 1 = n
  lt : ∀ e ∈ es, e.1 < n ∧ e.2 < n
  nd : (es.map Prod.snd).Nodup
  side : ∃ side : Nat → Nat → Bool, (∀ e ∈ es, side e.2 e.1 ≠ side e.2 e.2) ∧ ∀ e ∈ es, ∀ f ∈ es, e.2 ≠ f.2 → side e.2 f.1 = side e.2 f.2
  conn : ∀ S : Nat → Prop, (∀ e ∈ es, S e.1 ↔ S e.2) → ∀ x y, x < n → y < n → S x → S y
theorem Tr0.one : Tr0 1 [] where
  len := rfl
  lt := fun _ h => nomatch h
  nd := List.nodup_nil
  side := ⟨fun _ _ => true, fun _ h => (nomatch h), fun _ h => (nomatch h)⟩
  conn := fun S _ x y hx hy h => (show x = y by omega) ▸ h
theorem Tr0.grow {n : Nat} {es : List (Nat × Nat)} (T : Tr0 n es) (o : Nat) (ho : o < n) : Tr0 (n + 1) (es ++ [(o, n)]) := by
  obtain ⟨len, lt, nd, ⟨side, s1, s2⟩, conn⟩ := T
  have hn : ∀ e ∈ es, e.2 ≠ n := fun e h => by have := (lt e h).2; omega
  have hn1 : ∀ e ∈ es, e.1 ≠ n := fun e h => by have := (lt e h).1; omega
  refine ⟨by simp; omega, fun e h => ?_, ?_, ⟨fun c x => if c = n then decide (x = n) else if x = n then side c o else side c x, fun e h => ?_, fun e h f hf hne => ?_⟩, fun S hS x y hx hy h => ?_⟩
  · rcases List.mem_append.mp h with h | h
    · have := lt e h; omega
    · rw [List.mem_singleton.mp h]; exact ⟨Nat.lt_succ_of_lt ho, Nat.lt_succ_self _⟩
  · rw [List.map_append]
    refine List.nodup_append.mpr ⟨nd, by simp, fun a ha b hb => ?_⟩
    obtain ⟨e, he, rfl⟩ := List.mem_map.mp ha
    simp at hb
    rw [hb]
    exact hn e he
  · rcases List.mem_append.mp h with h | h
    · simp only [if_neg (hn e h), if_neg (hn1 e h)]
      exact s1 e h
    · rw [List.mem_singleton.mp h]
      simp only [if_pos rfl]
      rw [decide_eq_false (show ¬ o = n by omega)]
      simp
  · rcases List.mem_append.mp h with h | h
    · simp only [if_neg (hn e h)]
      rcases List.mem_append.mp hf with hf | hf
      · simp only [if_neg (hn f hf), if_neg (hn1 f hf)]
        exact s2 e h f hf hne
      · rw [List.mem_singleton.mp hf]
        simp only [if_neg (show ¬ o = n by omega), if_true]
    · rcases List.mem_append.mp hf with hf | hf
      · rw [List.mem_singleton.mp h]
        simp only [if_true]
        rw [decide_eq_false (hn f hf), decide_eq_false (hn1 f hf)]
      · rw [List.mem_singleton.mp h, List.mem_singleton.mp hf] at hne
        exact absurd rfl hne
  · have h0 : ∀ e ∈ es, S e.1 ↔ S e.2 := fun e he => hS e (List.mem_append.mpr (.inl he))
    have h1 : S o ↔ S n := hS (o, n) (List.mem_append.mpr (.inr (List.mem_singleton.mpr rfl)))
    by_cases ex : x = n
    · subst ex
      have so : S o := h1.mpr h
      by_cases ey : y = x
      · exact ey ▸ h
      · exact conn S h0 o y ho (by omega) so
    · have sx : S o := conn S h0 x o (by omega) ho h
      by_cases ey : y = n
      · exact ey ▸ h1.mp sx
      · exact conn S h0 x y (by omega) (by omega) h
theorem Tr0.perm {n : Nat} {es fs : List (Nat × Nat)} (T : Tr0 n es) (p : fs.Perm es) : Tr0 n fs := by
  obtain ⟨len, lt, nd, ⟨side, s1, s2⟩, conn⟩ := T
  exact ⟨by rw [p.length_eq]; exact len, fun e h => lt e (p.mem_iff.mp h), (p.map Prod.snd).nodup_iff.mpr nd,
    ⟨side, fun e h => s1 e (p.mem_iff.mp h), fun e h f hf => s2 e (p.mem_iff.mp h) f (p.mem_iff.mp hf)⟩,
    fun S hS => conn S fun e h => hS e (p.mem_iff.mpr h)⟩
/-- renamed by a list of names that is a rearrangement of 0 .. n - 1 -/
theorem Tr0.names {n : Nat} {es : List (Nat × Nat)} (T : Tr0 n es) (f g : Nat → Nat) (h1 : ∀ x, x < n → f x < n) (h2 : ∀ x, x < n → g (f x) = x) (h3 : ∀ y, y < n → g y < n ∧ f (g y) = y) :
    Tr0 n (es.map fun e => (f e.1, f e.2)) := by
  obtain ⟨len, lt, nd, ⟨side, s1, s2⟩, conn⟩ := T
  refine ⟨by rw [List.length_map]; exact len, fun e h => ?_, ?_, ⟨fun c x => side (g c) (g x), fun e h => ?_, fun e h e' h' hne => ?_⟩, fun S hS x y hx hy h => ?_⟩
  · obtain ⟨a, ha, rfl⟩ := List.mem_map.mp h
    exact ⟨h1 _ (lt a ha).1, h1 _ (lt a ha).2⟩
  · rw [List.map_map]
    have q : ∀ l : List (Nat × Nat), (∀ e ∈ l, e.2 < n) → (l.map Prod.snd).Nodup → (l.map (Prod.snd ∘ fun e => (f e.1, f e.2))).Nodup := by
      intro l
      induction l with
      | nil => intro _ _; exact List.nodup_nil
      | cons a r ih =>
        intro hl hd
        rw [List.map_cons] at hd ⊢
        obtain ⟨d1, d2⟩ := List.nodup_cons.mp hd
        refine List.nodup_cons.mpr ⟨fun m => d1 ?_, ih (fun e he => hl e (List.mem_cons_of_mem _ he)) d2⟩
        obtain ⟨b, hb, e⟩ := List.mem_map.mp m
        have e' : f b.2 = f a.2 := e
        have : b.2 = a.2 := by rw [← h2 b.2 (hl b (List.mem_cons_of_mem _ hb)), e', h2 a.2 (hl a List.mem_cons_self)]
        exact List.mem_map.mpr ⟨b, hb, this⟩
    exact q es (fun e he => (lt e he).2) nd
  · obtain ⟨a, ha, rfl⟩ := List.mem_map.mp h
    show side (g (f a.2)) (g (f a.1)) ≠ side (g (f a.2)) (g (f a.2))
    rw [h2 _ (lt a ha).1, h2 _ (lt a ha).2]
    exact s1 a ha
  · obtain ⟨a, ha, rfl⟩ := List.mem_map.mp h
    obtain ⟨b, hb, rfl⟩ := List.mem_map.mp h'
    show side (g (f a.2)) (g (f b.1)) = side (g (f a.2)) (g (f b.2))
    rw [h2 _ (lt a ha).2, h2 _ (lt b hb).1, h2 _ (lt b hb).2]
    exact s2 a ha b hb fun e => hne (by show f a.2 = f b.2; rw [e])
  · have q := conn (fun z => S (f z)) (fun e he => hS _ (List.mem_map.mpr ⟨e, he, rfl⟩)) (g x) (g y) (h3 x hx).1 (h3 y hy).1 (by show S (f (g x)); rw [(h3 x hx).2]; exact h)
    have q' : S (f (g y)) := q
    rw [(h3 y hy).2] at q'
    exact q'

/-- a house of n rooms that is a tree, its doors by their numbers, the ends in either order -/
structure Tree (n : Nat) (ds : List (Nat × Nat)) : Prop where
  len : ds.length + 1 = n
  lt : ∀ e ∈ ds, e.1 < n ∧ e.2 < n
  side : ∃ side : Nat → Nat → Bool, (∀ d e, ds[d]? = some e → side d e.1 ≠ side d e.2) ∧ ∀ c d e, ds[d]? = some e → c ≠ d → side c e.1 = side c e.2
  conn : ∀ S : Nat → Prop, (∀ e ∈ ds, S e.1 ↔ S e.2) → ∀ x y, x < n → y < n → S x → S y
/-- pointwise the same up to the order of the ends -/
inductive Flip : List (Nat × Nat) → List (Nat × Nat) → Prop
  | nil : Flip [] []
  | same {e es fs} (h : Flip es fs) : Flip (e :: es) (e :: fs)
  | turn {a b es fs} (h : Flip es fs) : Flip ((a, b) :: es) ((b, a) :: fs)
theorem Flip.len : ∀ {es fs}, Flip es fs → es.length = fs.length
  | _, _, .nil => rfl
  | _, _, .same h => by rw [List.length_cons, List.length_cons, h.len]
  | _, _, .turn h => by rw [List.length_cons, List.length_cons, h.len]
theorem Flip.get : ∀ {es fs}, Flip es fs → ∀ {d : Nat} {f : Nat × Nat}, fs[d]? = some f → ∃ e, es[d]? = some e ∧ (f = e ∨ f = (e.2, e.1))
  | _, _, .nil, d, f, h => by simp at h
  | _, _, .same h, 0, f, e => ⟨_, rfl, .inl (Option.some.inj e).symm⟩
  | _, _, .turn h, 0, f, e => ⟨_, rfl, .inr (Option.some.inj e).symm⟩
  | _, _, .same h, d + 1, f, e => h.get (d := d) e
  | _, _, .turn h, d + 1, f, e => h.get (d := d) e
theorem Flip.get' : ∀ {es fs}, Flip es fs → ∀ {d : Nat} {e : Nat × Nat}, es[d]? = some e → ∃ f, fs[d]? = some f ∧ (f = e ∨ f = (e.2, e.1))
  | _, _, .nil, d, f, h => by simp at h
  | _, _, .same h, 0, f, e => ⟨_, rfl, .inl (Option.some.inj e)⟩
  | _, _, .turn h, 0, f, e => ⟨_, rfl, .inr (by rw [← Option.some.inj e])⟩
  | _, _, .same h, d + 1, f, e => h.get' (d := d) e
  | _, _, .turn h, d + 1, f, e => h.get' (d := d) e
theorem Flip.snoc : ∀ {es fs} (e : Nat × Nat), Flip es fs → Flip (es ++ [e]) (fs ++ [e])
  | _, _, _, .nil => .same .nil
  | _, _, e, .same h => .same (h.snoc e)
  | _, _, e, .turn h => .turn (h.snoc e)
theorem Flip.snocT : ∀ {es fs} (a b : Nat), Flip es fs → Flip (es ++ [(a, b)]) (fs ++ [(b, a)])
  | _, _, _, _, .nil => .turn .nil
  | _, _, a, b, .same h => .same (h.snocT a b)
  | _, _, a, b, .turn h => .turn (h.snocT a b)
theorem Flip.refl : ∀ es, Flip es es
  | [] => .nil
  | _ :: r => .same (Flip.refl r)
theorem Tr0.tree {n : Nat} {es ds : List (Nat × Nat)} (T : Tr0 n es) (F : Flip es ds) : Tree n ds := by
  obtain ⟨len, lt, nd, ⟨side, s1, s2⟩, conn⟩ := T
  refine ⟨by rw [← F.len]; exact len, fun f h => ?_, ⟨fun d x => match es[d]? with | some e => side e.2 x | none => true, fun d f h => ?_, fun c d f h hne => ?_⟩, fun S hS => conn S fun e he => ?_⟩
  · obtain ⟨d, hd⟩ := List.mem_iff_getElem?.mp h
    obtain ⟨e, he, q⟩ := F.get hd
    have := lt e (List.mem_of_getElem? he)
    rcases q with q | q <;> subst q
    · exact this
    · exact ⟨this.2, this.1⟩
  · obtain ⟨e, he, q⟩ := F.get h
    have := s1 e (List.mem_of_getElem? he)
    simp only [he]
    rcases q with q | q <;> subst q
    · exact this
    · exact this.symm
  · obtain ⟨e, he, q⟩ := F.get h
    cases hc : es[c]? with
    | none => simp only [hc]
    | some e' =>
      simp only [hc]
      have hne2 : e'.2 ≠ e.2 := fun z => by
        apply hne
        obtain ⟨hd, hed⟩ := List.getElem?_eq_some_iff.mp he
        obtain ⟨hc', hec⟩ := List.getElem?_eq_some_iff.mp hc
        exact (List.getElem_inj (xs := es.map Prod.snd) (h₀ := by simpa using hc') (h₁ := by simpa using hd) nd).mp (by simp [hed, hec, z])
      have := s2 e' (List.mem_of_getElem? hc) e (List.mem_of_getElem? he) hne2
      rcases q with q | q <;> subst q
      · exact this
      · exact this.symm
  · obtain ⟨d, hd⟩ := List.mem_iff_getElem?.mp he
    obtain ⟨f, hf, q⟩ := F.get' hd
    have := hS f (List.mem_of_getElem? hf)
    rcases q with q | q <;> subst q
    · exact this
    · exact this.symm

/-- door d joins x and y -/
def Joins (ds : List (Nat × Nat)) (d x y : Nat) : Prop := ds[d]? = some (x, y) ∨ ds[d]? = some (y, x)
theorem Joins.symm {ds d x y} (j : Joins ds d x y) : Joins ds d y x := Or.symm j
theorem Joins.other {ds d x y z} (j : Joins ds d x y) (k : Joins ds d x z) (hxy : x ≠ y) : y = z := by
  rcases j with j | j <;> rcases k with k | k <;> rw [j] at k <;> cases k
  · rfl
  · exact absurd rfl hxy
  · exact absurd rfl hxy
  · rfl
/-- a way by the doors of the list -/
inductive Walk (ds : List (Nat × Nat)) : Nat → List Nat → Nat → Prop
  | nil (a) : Walk ds a [] a
  | cons {a c b d p} (j : Joins ds d a c) (w : Walk ds c p b) : Walk ds a (d :: p) b
theorem Walk.snoc {ds a p b d c} (w : Walk ds a p b) (j : Joins ds d b c) : Walk ds a (p ++ [d]) c := by
  induction w with
  | nil a => exact .cons j (.nil _)
  | cons j' w ih => exact .cons j' (ih j)
theorem Walk.app {ds a p b q c} (w : Walk ds a p b) (v : Walk ds b q c) : Walk ds a (p ++ q) c := by
  induction w with
  | nil a => exact v
  | cons j' w ih => exact .cons j' (ih v)
theorem Walk.rev {ds a p b} (w : Walk ds a p b) : Walk ds b p.reverse a := by
  induction w with
  | nil a => exact .nil _
  | cons j w ih =>
    rw [List.reverse_cons]
    exact ih.snoc j.symm
theorem Walk.split {ds} {e : Nat} : ∀ {a p b}, Walk ds a p b → e ∈ p → ∃ p1 p2 x y, p = p1 ++ e :: p2 ∧ Walk ds a p1 x ∧ Joins ds e x y ∧ Walk ds y p2 b
  | _, _, _, .nil a, h => by cases h
  | a, d :: p, b, .cons j w, h => by
    by_cases q : e = d
    · subst q
      exact ⟨[], p, a, _, rfl, .nil _, j, w⟩
    · have h' : e ∈ p := (List.mem_cons.mp h).resolve_left q
      obtain ⟨p1, p2, x, y, e1, w1, j1, w2⟩ := Walk.split w h'
      exact ⟨d :: p1, p2, x, y, by rw [e1]; rfl, .cons j w1, j1, w2⟩
section
variable {n : Nat} {ds : List (Nat × Nat)}
theorem side_join {side : Nat → Nat → Bool} (s1 : ∀ d e, ds[d]? = some e → side d e.1 ≠ side d e.2) {d x y : Nat} (j : Joins ds d x y) : side d x ≠ side d y := by
  rcases j with j | j
  · exact s1 _ _ j
  · exact (s1 _ _ j).symm
theorem side_other {side : Nat → Nat → Bool} (s2 : ∀ c d e, ds[d]? = some e → c ≠ d → side c e.1 = side c e.2) {c d x y : Nat} (j : Joins ds d x y) (h : c ≠ d) : side c x = side c y := by
  rcases j with j | j
  · exact s2 _ _ _ j h
  · exact (s2 _ _ _ j h).symm
theorem side_walk {side : Nat → Nat → Bool} (s2 : ∀ c d e, ds[d]? = some e → c ≠ d → side c e.1 = side c e.2) {c : Nat} : ∀ {a p b}, Walk ds a p b → c ∉ p → side c a = side c b
  | _, _, _, .nil a, _ => rfl
  | _, _, _, .cons j w, h => by
    rw [side_other s2 j fun e => h (by rw [e]; exact List.mem_cons_self)]
    exact side_walk s2 w fun m => h (List.mem_cons_of_mem _ m)
theorem side_use {side : Nat → Nat → Bool} (s1 : ∀ d e, ds[d]? = some e → side d e.1 ≠ side d e.2) (s2 : ∀ c d e, ds[d]? = some e → c ≠ d → side c e.1 = side c e.2) {c : Nat} {a p b} (w : Walk ds a p b) (nd : p.Nodup) (h : c ∈ p) : side c a ≠ side c b := by
  obtain ⟨p1, p2, x, y, rfl, w1, j, w2⟩ := w.split h
  obtain ⟨n1, n2, n3⟩ := List.nodup_append.mp nd
  have c1 : c ∉ p1 := fun m => n3 c m c List.mem_cons_self rfl
  have c2 : c ∉ p2 := (List.nodup_cons.mp n2).1
  rw [side_walk s2 w1 c1, ← side_walk s2 w2 c2]
  exact side_join s1 j
theorem way_unique (T : Tree n ds) : ∀ {p q a b}, Walk ds a p b → Walk ds a q b → p.Nodup → q.Nodup → p = q := by
  obtain ⟨side, s1, s2⟩ := T.side
  intro p
  induction p with
  | nil =>
    intro q a b w v np nq
    cases w
    cases v with
    | nil => rfl
    | cons j v => exact absurd rfl (side_use s1 s2 (.cons j v) nq List.mem_cons_self)
  | cons d p ih =>
    intro q a b w v np nq
    have hd := side_use s1 s2 w np List.mem_cons_self
    cases w with
    | @cons _ c _ _ _ j w =>
    cases v with
    | nil => exact absurd rfl hd
    | @cons _ c' _ e q j' v =>
      by_cases hde : d = e
      · subst hde
        have hac : a ≠ c := fun z => side_join s1 j (by rw [z])
        have := j.other j' hac
        subst this
        rw [ih w v (List.nodup_cons.mp np).2 (List.nodup_cons.mp nq).2]
      · exfalso
        have he := side_use s1 s2 (.cons j' v) nq List.mem_cons_self
        have hep : e ∈ p := by
          refine Classical.byContradiction fun hn => he ?_
          rw [side_other s2 j (Ne.symm hde)]
          exact side_walk s2 w hn
        obtain ⟨p1, p2, x, y, rfl, w1, j1, w2⟩ := w.split hep
        have n0 := List.nodup_cons.mp np
        obtain ⟨n1, n2, n3⟩ := List.nodup_append.mp n0.2
        have c1 : e ∉ p1 := fun m => n3 e m e List.mem_cons_self rfl
        have hx : side e x = side e a := by
          rw [← side_walk s2 w1 c1, ← side_other s2 j (Ne.symm hde)]
        have hxa : x = a := by
          rcases j1 with k | k <;> rcases j' with k' | k' <;> rw [k] at k' <;> cases k'
          · rfl
          · exact absurd hx.symm (s1 _ _ k).symm
          · exact absurd hx.symm (s1 _ _ k)
          · rfl
        subst hxa
        have c2 : d ∉ p1 := fun m => n0.1 (List.mem_append.mpr (.inl m))
        exact side_join s1 j (side_walk s2 w1 c2).symm
theorem way_uses (T : Tree n ds) {side : Nat → Nat → Bool} (s1 : ∀ d e, ds[d]? = some e → side d e.1 ≠ side d e.2) (s2 : ∀ c d e, ds[d]? = some e → c ≠ d → side c e.1 = side c e.2) {a p b d} (w : Walk ds a p b) (np : p.Nodup) : d ∈ p ↔ side d a ≠ side d b :=
  ⟨side_use s1 s2 w np, fun h => Classical.byContradiction fun hn => h (side_walk s2 w hn)⟩
theorem Joins.lt (T : Tree n ds) {d x y} (j : Joins ds d x y) : x < n ∧ y < n ∧ d + 1 < n ∧ x ≠ y := by
  obtain ⟨side, s1, s2⟩ := T.side
  have ne : x ≠ y := fun z => side_join s1 j (by rw [z])
  have hl := T.len
  rcases j with j | j
  · have := T.lt _ (List.mem_of_getElem? j)
    have h := (List.getElem?_eq_some_iff.mp j).1
    exact ⟨this.1, this.2, by omega, ne⟩
  · have := T.lt _ (List.mem_of_getElem? j)
    have h := (List.getElem?_eq_some_iff.mp j).1
    exact ⟨this.2, this.1, by omega, ne⟩
end
end K5

namespace K5
structure Uf (n : Nat) (L : List Nat) (rank : Nat → Nat) (R : Nat → Nat → Prop) : Prop where
  len : L.length = n
  at_ : ∀ x y, L[x]? = some y → y < n ∧ R x y ∧ (y ≠ x → rank y < rank x)
theorem get_lt {α : Type} {L : List α} {x : Nat} {y : α} (h : L[x]? = some y) : x < L.length := (List.getElem?_eq_some_iff.mp h).1
theorem get_set {α : Type} {L : List α} {x w : Nat} {z v : α} (h : (L.set x z)[w]? = some v) : (w = x ∧ v = z) ∨ (w ≠ x ∧ L[w]? = some v) := by
  rw [List.getElem?_set] at h
  by_cases e : x = w
  · rw [if_pos e] at h
    split at h
    · exact .inl ⟨e.symm, (Option.some.inj h).symm⟩
    · cases h
  · rw [if_neg e] at h
    exact .inr ⟨fun q => e q.symm, h⟩
theorem Uf.half {n L rank R} (u : Uf n L rank R) (tr : ∀ a b c, R a b → R b c → R a c) {x y z : Nat} (hx : L[x]? = some y) (hy : L[y]? = some z) : Uf n (L.set x z) rank R := by
  refine ⟨by rw [List.length_set]; exact u.len, fun w v h => ?_⟩
  rcases get_set h with ⟨rfl, rfl⟩ | ⟨_, h⟩
  · obtain ⟨a1, a2, a3⟩ := u.at_ _ _ hx
    obtain ⟨b1, b2, b3⟩ := u.at_ _ _ hy
    refine ⟨b1, tr _ _ _ a2 b2, fun ne => ?_⟩
    by_cases e : y = w
    · subst e
      rw [hx] at hy
      exact absurd (Option.some.inj hy).symm ne
    · have := a3 e
      by_cases e2 : v = y
      · subst e2; exact this
      · exact Nat.lt_trans (b3 e2) this
  · exact u.at_ _ _ h
theorem Uf.less {n L rank R} (u : Uf n L rank R) {x y z : Nat} (hx : L[x]? = some y) (hy : L[y]? = some z) (ne : y ≠ x) : rank z < rank x := by
  have h1 := (u.at_ _ _ hx).2.2 ne
  by_cases e : z = y
  · subst e; exact h1
  · exact Nat.lt_trans ((u.at_ _ _ hy).2.2 e) h1
theorem Uf.range (n : Nat) (R : Nat → Nat → Prop) (rf : ∀ a, R a a) : Uf n (List.range n) (fun _ => 0) R := by
  refine ⟨List.length_range, fun x y h => ?_⟩
  have hx : x < n := by simpa using get_lt h
  rw [List.getElem?_range hx] at h
  have e : x = y := Option.some.inj h
  subst e
  exact ⟨hx, rf _, fun z => absurd rfl z⟩
/-- alike for all doors from k on -/
def Rk (side : Nat → Nat → Bool) (k : Nat) (x y : Nat) : Prop := ∀ d, k ≤ d → side d x = side d y
theorem Rk.tr {side k} : ∀ a b c, Rk side k a b → Rk side k b c → Rk side k a c := fun a b c h1 h2 d hd => (h1 d hd).trans (h2 d hd)
theorem Rk.rf {side k} : ∀ a, Rk side k a a := fun a d _ => rfl
theorem Uf.union {n L rank side k} {ds : List (Nat × Nat)} (u : Uf n L rank (Rk side k)) (s1 : ∀ d e, ds[d]? = some e → side d e.1 ≠ side d e.2) (s2 : ∀ c d e, ds[d]? = some e → c ≠ d → side c e.1 = side c e.2)
    {x y ra rb : Nat} (hd : ds[k]? = some (x, y)) (ha : Rk side k x ra) (hb : Rk side k y rb) (hra : L[ra]? = some ra) (hrb : L[rb]? = some rb) :
    Uf n (L.set ra rb) (fun z => rank z + if side k z = side k x then rank rb + 1 else 0) (Rk side (k + 1)) := by
  refine ⟨by rw [List.length_set]; exact u.len, fun w v h => ?_⟩
  have hne : side k x ≠ side k y := s1 _ _ hd
  rcases get_set h with ⟨rfl, rfl⟩ | ⟨_, h⟩
  · refine ⟨(u.at_ _ _ hrb).1, fun d hd' => ?_, fun _ => ?_⟩
    · rw [← ha d (by omega), ← hb d (by omega)]
      exact s2 d k _ hd (by omega)
    · have e1 : side k w = side k x := (ha k (Nat.le_refl _)).symm
      have e2 : ¬ side k v = side k x := fun z => hne (z.symm.trans (hb k (Nat.le_refl _)).symm)
      simp only [e1, if_true, if_neg e2]
      omega
  · obtain ⟨b1, b2, b3⟩ := u.at_ _ _ h
    refine ⟨b1, fun d hd' => b2 d (by omega), fun ne => ?_⟩
    have := b3 ne
    have e : side k w = side k v := b2 k (Nat.le_refl _)
    rw [e]
    omega
theorem ring_no {side : Nat → Nat → Bool} {k} {ds : List (Nat × Nat)} (s1 : ∀ d e, ds[d]? = some e → side d e.1 ≠ side d e.2) {x y r : Nat} (hd : ds[k]? = some (x, y)) (ha : Rk side k x r) (hb : Rk side k y r) : False :=
  s1 _ _ hd ((ha k (Nat.le_refl _)).trans (hb k (Nat.le_refl _)).symm)
end K5

namespace K5
theorem nodup_le : ∀ (n : Nat) (l : List Nat), l.Nodup → (∀ x ∈ l, x < n) → l.length ≤ n
  | 0, [], _, _ => Nat.le_refl _
  | 0, a :: r, _, h => absurd (h a List.mem_cons_self) (Nat.not_lt_zero _)
  | n + 1, l, nd, h => by
    by_cases m : n ∈ l
    · have h1 := nodup_le n (l.erase n) (nd.erase n) fun x hx => by
        have q := (List.Nodup.mem_erase_iff nd).mp hx
        have := h x q.2
        have := q.1
        omega
      rw [List.length_erase_of_mem m] at h1
      have : 0 < l.length := List.length_pos_of_mem m
      omega
    · have h1 := nodup_le n l nd fun x hx => by
        have := h x hx
        have : x ≠ n := fun e => m (e ▸ hx)
        omega
      omega
/-- a search: kl the rooms found, ws those that wait -/
structure Dfs (n : Nat) (ds : List (Nat × Nat)) (shut kl ws : List Nat) : Prop where
  nd : kl.Nodup
  lt : ∀ x ∈ kl, x < n
  sub : ∀ x ∈ ws, x ∈ kl
  cl : ∀ x ∈ kl, x ∉ ws → ∀ d y, Joins ds d x y → d ∉ shut → y ∈ kl
structure DfsIn (n : Nat) (ds : List (Nat × Nat)) (shut kl ws : List Nat) (here : Nat) (don : List (Nat × Nat)) : Prop where
  nd : kl.Nodup
  lt : ∀ x ∈ kl, x < n
  sub : ∀ x ∈ ws, x ∈ kl
  cl : ∀ x ∈ kl, x ∉ ws → x ≠ here → ∀ d y, Joins ds d x y → d ∉ shut → y ∈ kl
  he : here ∈ kl
  dn : ∀ d y, (d, y) ∈ don → d ∉ shut → y ∈ kl
section
variable {n : Nat} {ds : List (Nat × Nat)} {shut kl ws : List Nat} {here : Nat} {don : List (Nat × Nat)}
theorem Dfs.start {x : Nat} (h : x < n) : Dfs n ds shut [x] [x] :=
  ⟨by simp, fun y hy => by rw [List.mem_singleton.mp hy]; exact h, fun y hy => hy, fun y hy hn => absurd hy hn⟩
theorem Dfs.pop (h : Dfs n ds shut kl (ws ++ [here])) : DfsIn n ds shut kl ws here [] :=
  ⟨h.nd, h.lt, fun x m => h.sub x (List.mem_append.mpr (.inl m)), fun x m nw ne d y j ns => h.cl x m (fun q => by
    rcases List.mem_append.mp q with q | q
    · exact nw q
    · exact ne (List.mem_singleton.mp q)) d y j ns, h.sub here (List.mem_append.mpr (.inr (List.mem_singleton.mpr rfl))), fun d y m => nomatch m⟩
theorem DfsIn.skip (h : DfsIn n ds shut kl ws here don) {d y : Nat} (q : d ∈ shut ∨ y ∈ kl) : DfsIn n ds shut kl ws here (don ++ [(d, y)]) :=
  ⟨h.nd, h.lt, h.sub, h.cl, h.he, fun d' y' m ns => by
    rcases List.mem_append.mp m with m | m
    · exact h.dn d' y' m ns
    · cases List.mem_singleton.mp m
      exact q.resolve_left ns⟩
theorem DfsIn.add (h : DfsIn n ds shut kl ws here don) {d y : Nat} (hy : y < n) (nk : y ∉ kl) : DfsIn n ds shut (kl ++ [y]) (ws ++ [y]) here (don ++ [(d, y)]) where
  nd := List.nodup_append.mpr ⟨h.nd, by simp, fun a ha b hb e => by
    rw [List.mem_singleton.mp hb] at e
    exact nk (e ▸ ha)⟩
  lt := fun x m => by
    rcases List.mem_append.mp m with m | m
    · exact h.lt x m
    · rw [List.mem_singleton.mp m]; exact hy
  sub := fun x m => by
    rcases List.mem_append.mp m with m | m
    · exact List.mem_append.mpr (.inl (h.sub x m))
    · exact List.mem_append.mpr (.inr m)
  cl := fun x m nw ne d' y' j ns => by
    rcases List.mem_append.mp m with m | m
    · exact List.mem_append.mpr (.inl (h.cl x m (fun q => nw (List.mem_append.mpr (.inl q))) ne d' y' j ns))
    · exact absurd (List.mem_append.mpr (.inr m)) nw
  he := List.mem_append.mpr (.inl h.he)
  dn := fun d' y' m ns => by
    rcases List.mem_append.mp m with m | m
    · exact List.mem_append.mpr (.inl (h.dn d' y' m ns))
    · cases List.mem_singleton.mp m
      exact List.mem_append.mpr (.inr (List.mem_singleton.mpr rfl))
theorem DfsIn.done (h : DfsIn n ds shut kl ws here don) (all : ∀ d y, Joins ds d here y → (d, y) ∈ don) : Dfs n ds shut kl ws :=
  ⟨h.nd, h.lt, h.sub, fun x m nw d y j ns => by
    by_cases e : x = here
    · subst e
      exact h.dn d y (all d y j) ns
    · exact h.cl x m nw e d y j ns⟩
theorem Dfs.le (h : Dfs n ds shut kl ws) : kl.length ≤ n := nodup_le n kl h.nd h.lt
theorem DfsIn.le (h : DfsIn n ds shut kl ws here don) : kl.length ≤ n := nodup_le n kl h.nd h.lt
/-- in the end: a closed set of rooms; without shut doors it is all -/
theorem Dfs.all (T : Tree n ds) (h : Dfs n ds [] kl []) {x : Nat} (hx : x ∈ kl) : ∀ y, y < n → y ∈ kl := by
  intro y hy
  refine T.conn (fun z => z ∈ kl) (fun e he => ?_) x y (h.lt x hx) hy hx
  obtain ⟨d, hd⟩ := List.mem_iff_getElem?.mp he
  exact ⟨fun m => h.cl _ m (by simp) d _ (.inl hd) (by simp), fun m => h.cl _ m (by simp) d _ (.inr hd) (by simp)⟩
theorem Dfs.walk (h : Dfs n ds shut kl []) : ∀ {x p y}, Walk ds x p y → (∀ d ∈ p, d ∉ shut) → x ∈ kl → y ∈ kl := by
  intro x p y w
  induction w with
  | nil a => intro _ m; exact m
  | cons j w ih => intro ns m; exact ih (fun d hd => ns d (List.mem_cons_of_mem _ hd)) (h.cl _ m (by simp) _ _ j (ns _ List.mem_cons_self))
end
/-- steps towards the beginning -/
structure Ptr (ds : List (Nat × Nat)) (shut : List Nat) (room : Nat) (ks : List (Nat × Option (Nat × Nat))) : Prop where
  st : ∀ x d y, (x, some (d, y)) ∈ ks → Joins ds d x y ∧ d ∉ shut ∧ y ∈ ks.map Prod.fst ∧ (ks.map Prod.fst).idxOf y < (ks.map Prod.fst).idxOf x
  fin : ∀ x, (x, none) ∈ ks → x = room
theorem Ptr.start {ds shut room} : Ptr ds shut room [(room, none)] :=
  ⟨fun x d y m => (by cases List.mem_singleton.mp m), fun x m => (by cases List.mem_singleton.mp m; rfl)⟩
theorem Ptr.add {ds shut room ks} (P : Ptr ds shut room ks) {x d y : Nat} (j : Joins ds d x y) (ns : d ∉ shut) (hy : y ∈ ks.map Prod.fst) (hx : x ∉ ks.map Prod.fst) : Ptr ds shut room (ks ++ [(x, some (d, y))]) := by
  refine ⟨fun x' d' y' m => ?_, fun x' m => ?_⟩
  · rw [List.map_append]
    rcases List.mem_append.mp m with m | m
    · obtain ⟨a, b, c, e⟩ := P.st x' d' y' m
      have hx' : x' ∈ ks.map Prod.fst := List.mem_map.mpr ⟨_, m, rfl⟩
      refine ⟨a, b, List.mem_append.mpr (.inl c), ?_⟩
      rw [List.idxOf_append, if_pos c, List.idxOf_append, if_pos hx']
      exact e
    · cases List.mem_singleton.mp m
      refine ⟨j, ns, List.mem_append.mpr (.inl hy), ?_⟩
      rw [List.idxOf_append, if_pos hy, List.idxOf_append, if_neg hx]
      have := List.idxOf_lt_length_iff.mpr hy
      omega
  · rcases List.mem_append.mp m with m | m
    · exact P.fin x' m
    · cases List.mem_singleton.mp m
/-- the way made so far from a to here along the steps -/
structure Made (ds : List (Nat × Nat)) (kl : List Nat) (a : Nat) (p : List Nat) (here : Nat) : Prop where
  w : Walk ds a p here
  nd : p.Nodup
  up : ∀ d ∈ p, ∀ x y, Joins ds d x y → kl.idxOf here ≤ kl.idxOf x ∧ kl.idxOf here ≤ kl.idxOf y
theorem Made.start {ds kl a} : Made ds kl a [] a := ⟨.nil _, List.nodup_nil, fun _ h => nomatch h⟩
theorem Made.step {ds shut room ks a p here d y} (T : ∃ n, Tree n ds) (M : Made ds (ks.map Prod.fst) a p here) (P : Ptr ds shut room ks) (h : (here, some (d, y)) ∈ ks) : Made ds (ks.map Prod.fst) a (p ++ [d]) y := by
  obtain ⟨j, ns, hy, lt⟩ := P.st here d y h
  refine ⟨M.w.snoc j, ?_, fun d' m x z k => ?_⟩
  · refine List.nodup_append.mpr ⟨M.nd, by simp, fun c hc b hb e => ?_⟩
    rw [List.mem_singleton.mp hb] at e
    subst e
    have := (M.up _ hc here y j).2
    omega
  · rcases List.mem_append.mp m with m | m
    · have := M.up d' m x z k
      omega
    · cases List.mem_singleton.mp m
      obtain ⟨n, T⟩ := T
      rcases j with j | j <;> rcases k with k | k <;> rw [j] at k <;> cases k
      · exact ⟨Nat.le_of_lt lt, Nat.le_refl _⟩
      · exact ⟨Nat.le_refl _, Nat.le_of_lt lt⟩
      · exact ⟨Nat.le_refl _, Nat.le_of_lt lt⟩
      · exact ⟨Nat.le_of_lt lt, Nat.le_refl _⟩
/-- the ways that the law makes: kl with the way to each -/
def Pth (ds : List (Nat × Nat)) (a : Nat) (ks : List (Nat × List Nat)) : Prop :=
  ∀ x p, (x, p) ∈ ks → Walk ds a p x ∧ p.Nodup ∧ ∀ d ∈ p, ∀ u v, Joins ds d u v → u ∈ ks.map Prod.fst ∧ v ∈ ks.map Prod.fst
theorem Pth.start {ds a} : Pth ds a [(a, [])] := fun x p m => by
  cases List.mem_singleton.mp m
  exact ⟨.nil _, List.nodup_nil, fun _ h => nomatch h⟩
theorem Pth.add {ds a ks x y p d} (P : Pth ds a ks) (h : (x, p) ∈ ks) (j : Joins ds d x y) (hy : y ∉ ks.map Prod.fst) : Pth ds a (ks ++ [(y, p ++ [d])]) := by
  intro x' p' m
  rw [List.map_append]
  rcases List.mem_append.mp m with m | m
  · obtain ⟨a, b, c⟩ := P x' p' m
    exact ⟨a, b, fun d hd u v k => ⟨List.mem_append.mpr (.inl (c d hd u v k).1), List.mem_append.mpr (.inl (c d hd u v k).2)⟩⟩
  · cases List.mem_singleton.mp m
    obtain ⟨a, b, c⟩ := P x p h
    have hx : x ∈ ks.map Prod.fst := List.mem_map.mpr ⟨_, h, rfl⟩
    refine ⟨a.snoc j, List.nodup_append.mpr ⟨b, by simp, fun c' hc b' hb e => ?_⟩, fun d' hd u v k => ?_⟩
    · rw [List.mem_singleton.mp hb] at e
      subst e
      exact hy (c _ hc x y j).2
    · rcases List.mem_append.mp hd with hd | hd
      · exact ⟨List.mem_append.mpr (.inl (c d' hd u v k).1), List.mem_append.mpr (.inl (c d' hd u v k).2)⟩
      · cases List.mem_singleton.mp hd
        have e1 := List.mem_append.mpr (.inl hx : x ∈ ks.map Prod.fst ∨ x ∈ [y])
        have e2 : y ∈ ks.map Prod.fst ++ [y] := List.mem_append.mpr (.inr (List.mem_singleton.mpr rfl))
        rcases j with j | j <;> rcases k with k | k <;> rw [j] at k <;> cases k
        · exact ⟨e1, e2⟩
        · exact ⟨e2, e1⟩
        · exact ⟨e2, e1⟩
        · exact ⟨e1, e2⟩
end K5

namespace K5
theorem perm_of_map {α β : Type} (f : α → β) : ∀ (l : List α) (ys : List β), ys.Perm (l.map f) → ∃ l' : List α, ys = l'.map f ∧ l'.Perm l
  | [], ys, h => ⟨[], h.eq_nil, List.Perm.refl _⟩
  | a :: r, ys, h => by
    have ha : f a ∈ ys := h.mem_iff.mpr List.mem_cons_self
    obtain ⟨s, t, rfl⟩ := List.append_of_mem ha
    have h2 : (s ++ t).Perm (r.map f) := (List.perm_middle.symm.trans h).cons_inv
    obtain ⟨r', e, p⟩ := perm_of_map f r _ h2
    refine ⟨r'.take s.length ++ a :: r'.drop s.length, ?_, ?_⟩
    · rw [List.map_append, List.map_cons, List.map_take, List.map_drop, ← e, List.take_left, List.drop_left]
    · have : (r'.take s.length ++ a :: r'.drop s.length).Perm (a :: r') := by
        have q := @List.perm_middle _ a (r'.take s.length) (r'.drop s.length)
        rw [List.take_append_drop] at q
        exact q
      exact this.trans (p.cons a)
theorem Tr0.nv {n : Nat} {es : List (Nat × Nat)} (T : Tr0 n es) {L : List Nat} (p : L.Perm (List.range n)) : Tr0 n (es.map fun e => (L.getD e.1 0, L.getD e.2 0)) := by
  have nd : L.Nodup := p.symm.nodup List.nodup_range
  have hl : L.length = n := by rw [p.length_eq, List.length_range]
  have hm : ∀ y, y ∈ L ↔ y < n := fun y => by rw [p.mem_iff, List.mem_range]
  have gd : ∀ x (h : x < n), L.getD x 0 = L[x]'(by omega) := fun x h => by
    rw [List.getD_eq_getElem?_getD, List.getElem?_eq_getElem (by omega)]
    rfl
  refine T.names (fun x => L.getD x 0) (fun y => L.idxOf y) (fun x h => ?_) (fun x h => ?_) (fun y h => ?_)
  · show L.getD x 0 < n
    rw [gd x h]
    exact (hm _).mp (List.getElem_mem _)
  · show L.idxOf (L.getD x 0) = x
    rw [gd x h]
    exact nd.idxOf_getElem x (by omega)
  · have hy := (hm y).mpr h
    have hi := List.idxOf_lt_length_iff.mpr hy
    refine ⟨by show L.idxOf y < n; omega, ?_⟩
    show L.getD (L.idxOf y) 0 = y
    rw [gd _ (by omega)]
    exact List.getElem_idxOf hi
end K5

/-! rules of our own: powers of any size, enumerate of a tuple, a pair turned by its step, a set made of a list of numbers -/
namespace L2
open PySem PySem.Spec PyProof.Rows
theorem op_powX {X : Cx} : OpR X (binaryOp .Pow) (rI (fun i j => 0 ≤ j ∧ (Builtin.Int.intBits i : Int) * j ≤ 2 ^ 27) fun i j => .int (i ^ j.toNat)) := opI fun _ _ _ _ _ _ _ hc q => pow_int hc.1 hc.2 q

/-! ### enumerate of a tuple: by what its iterator draws (GoesN) -/
def IteT (K : PySem.W.Frag) (a : Addr) : It where
  go i H := ∃ (xs : List V) (x : V), SqT K H a xs ∧ xs[i]? = some x
  yld i H v H' := ∃ T x, v = .ref T ∧ H T = none ∧ H' = upd H T (.tup [.int (i : Nat), x]) ∧ ∀ xs, SqT K H a xs → xs[i]? = some x
  stop i H := ∃ xs : List V, SqT K H a xs ∧ xs.length = i
/-- the three objects differ: their classes do -/
theorem enum_apart {h : Heap} {e it t : Addr} {i : Int} {old : Value} {j : Nat} {items : Array Value} (he : IsEnum h e it i old) (hi : h.IsTupleIter it t j) (ht : h.IsTuple t items) : e ∉ [it, t] ∧ t ≠ it := by
  obtain ⟨o, ho, hc, _⟩ := ht
  obtain ⟨oi, hoi, hci, _⟩ := hi
  have he' : h.get? e = some _ := he
  have n1 : e ≠ t := fun z => by
    rw [z, ho] at he'
    rw [← Option.some.inj he'.symm] at hc
    exact absurd (Value.type.inj hc) (by decide)
  have n2 : t ≠ it := fun z => by
    rw [z, hoi] at ho
    rw [← Option.some.inj ho, hci] at hc
    exact absurd (Value.type.inj hc) (by decide)
  have n3 : e ≠ it := fun z => by
    rw [z, hoi] at he'
    rw [← Option.some.inj he'.symm] at hci
    exact absurd (Value.type.inj hci) (by decide)
  exact ⟨by simp [n1, n3], n2⟩
/-- where the walk stands at its i-th turn -/
def EnT (a e it : Addr) (i : Nat) (h : Heap) : Prop := (∃ old, IsEnum h e it (0 + (i : Int)) old) ∧ h.IsTupleIter it a i ∧ e ≠ it
theorem EnT.lts {a e it : Addr} {i : Nat} {h : Heap} (st : EnT a e it i h) : ∀ b ∈ [e, it], b < h.objs.size := fun b hb => by
  obtain ⟨⟨old, he⟩, ⟨u, hu, _⟩, _⟩ := st
  rcases (List.mem_cons.mp hb : b = e ∨ b ∈ [it]) with z | z
  · exact z ▸ Heap.lt_size he
  · exact (List.mem_singleton.mp z) ▸ Heap.lt_size hu
theorem goesT {prog : Program} {w : World} {A : Around} {elts : List Expr} {kk : Nat} {tpos : Pos} (hh : A.handled = none) {a e it : Addr} {items : Array Value} (ne : e ≠ it) (ap : e ∉ [it, a] ∧ a ≠ it) :
    GoesN prog w A (.Tuple elts kk tpos) e [e, it, a] [e, it] items.size (fun i h0 v h => ∃ T t x, v = .ref T ∧ h0.objs.size ≤ T ∧ items[i]? = some x ∧ h.IsTuple T #[.int (0 + (i : Int)) t, x])
      (fun i h => (∃ old, IsEnum h e it (0 + (i : Int)) old) ∧ h.IsTupleIter it a i ∧ h.IsTuple a items) :=
  GoesN.enumFrom 0 (Draws.tuple (A := A.in1) hh it a ap.2 items) e ne ap.1 (by simp)
theorem turn_enumT {P : Program} {w : World} {K : PySem.W.Frag} {elts : List Expr} {kk : Nat} {tpos : Pos} (a e it : Addr) : Turn P w K (.Tuple elts kk tpos) (IteT K a) [e, it] e (EnT a e it) where
  mem := List.mem_cons_self
  obj := by
    rintro i h ⟨⟨old, he⟩, ⟨u, hu, _, hd⟩, _⟩ b hb
    rcases (List.mem_cons.mp hb : b = e ∨ b ∈ [it]) with rfl | m
    · exact ⟨_, he, by intro v z; cases z⟩
    · rw [List.mem_singleton.mp m]
      exact ⟨u, hu, by intro v z; rw [hd] at z; cases z⟩
  keep := by
    rintro i h h' ⟨⟨old, he⟩, ht, hn⟩ k
    exact ⟨⟨old, k _ List.mem_cons_self _ he⟩, ht.at (k it (List.mem_cons_of_mem _ (List.mem_singleton.mpr rfl))), hn⟩
  item := by
    rintro X rfl rfl rfl calm i pins s σ H E I hf st ⟨xs, x, hq, hx⟩
    have lts := st.lts
    obtain ⟨⟨old, he⟩, ht, hn⟩ := st
    obtain ⟨its, vals, tup, _⟩ := I.tuple hq
    obtain ⟨u, hu, ru⟩ := vals.get hx
    have hu' : its.toArray[i]? = some u := by
      rw [List.getElem?_toArray]
      exact hu
    have len : i < its.toArray.size := (Array.getElem?_eq_some_iff.mp hu').1
    refine (goesT (I.ok.hd calm) hn (enum_apart he ht tup)).goes i s _ _ len ⟨⟨old, he⟩, ht, tup⟩ fun v h' tk hY st' keep _ => ?_
    obtain ⟨T, t, y, rfl, nT, hy, hT⟩ := hY
    cases hu'.symm.trans hy
    have ok : ObjOk X.prog X.w (upd H T (.tup [.int (i : Nat), x])) h' T (.tup [.int (i : Nat), x]) :=
      ⟨by show 2 ≤ sizeLine; decide, [.int (0 + (i : Int)) t, u], .cons ⟨t, by rw [Int.zero_add]⟩ (.cons ru .nil), hT⟩
    refine ⟨.ref T, _, I.turnedNew keep hf nT ok, rfl, ⟨T, x, rfl, I.hok.fresh nT, rfl, fun ys hy => ?_⟩, ⟨st'.1, st'.2.1, hn⟩, fun b hb => ?_⟩
    · rw [I.tuple_inj hy hq]
      exact hx
    · rw [upd_ne (Nat.ne_of_lt (Nat.lt_of_lt_of_le (lts b hb) nT))]
      exact (hf b hb).1
  done := by
    rintro X rfl rfl rfl calm i pins s σ H E I hf ⟨⟨old, he⟩, ht, hn⟩ ⟨xs, hq, rfl⟩
    obtain ⟨its, vals, tup, _⟩ := I.tuple hq
    have sz : its.toArray.size = xs.length := by rw [List.size_toArray, vals.length]
    have g := goesT (prog := X.prog) (w := X.w) (elts := elts) (kk := kk) (tpos := tpos) (items := its.toArray) (I.ok.hd calm) hn (enum_apart he ht tup)
    refine g.stops s _ _ ⟨⟨old, by rw [sz]; exact he⟩, by rw [sz]; exact ht, tup⟩ fun h' tk keep _ => I.turnedL keep hf
  self := by
    rintro A i s Q E ⟨⟨old, he⟩, _⟩ q
    exact wpAny_pyIter_enum he q
/-- the object that enumerate makes over the iterator at i -/
abbrev enumOver (i : Addr) : Obj := { cls := .type "enumerate", data := .fields #[.none, .bool false, .ref i, rawInt 0, .none, .none] }
set_option maxHeartbeats 1200000 in
theorem enum_made {v : Value} {o : Obj} {C : Heap → Prop} (B : Begins v o C) : Meets (Builtin.«enumerate.__new__» ⟨[.type "enumerate", v], []⟩) (fun _ R s =>
    C s.heap ∧ R (.ok (.ret (.ref (s.heap.push o).objs.size))) { s with heap := (s.heap.push o).push (enumOver s.heap.objs.size) }) := by
  refine .of_wp fun prog w A R s ⟨c, h⟩ => ?_
  obtain ⟨hp, gs, dr, tk, os⟩ := s
  have sub := sub_enumerate
  have begun : ∀ {A' : Around} {E Q : Value → Shared → Prop}, Q (.ref hp.objs.size) ⟨hp.push o, gs, dr, tk, os⟩ → wpAny (model prog w) A' (pyIter v) Q E ⟨hp, gs, dr, tk, os⟩ := fun q => B.iter prog w _ _ _ _ c q
  wp_walk using begun
  refine wpAny_stack_any fun _ => ?_
  refine wpAny_pure ?_
  split
  · rename_i k _ _ _ _ _
    cases (k == Value.type "enumerate") <;> (wp_walk using begun; exact ⟨_, rfl, h⟩)
  · wp_walk using begun
    exact ⟨_, rfl, h⟩
theorem enum_call {prog : Program} {w : World} {A : Around} {E : Value → Shared → Prop} {s : Shared} {v : Value} {o : Obj} {C : Heap → Prop} (B : Begins v o C) (c : C s.heap) {Q : Value → Shared → Prop}
    (h : Q (.ref (s.heap.objs.size + 1)) { s with heap := (s.heap.push o).push (enumOver s.heap.objs.size) }) : wpAny (model prog w) A (call (.type "enumerate") [v]) Q E s := by
  have sz : (s.heap.push o).objs.size = s.heap.objs.size + 1 := Heap.size_push ..
  refine callType_new F.called_enumerate (by decide) (F.typeCall_enumerate_1 _) (F.newCall_enumerate_1 _)
    (fun obj => F.args_object_init_2 obj _) F.entry_enumerate_new (enum_made B) ⟨c, ?_⟩
  rw [← sz] at h
  refine ⟨?_, h⟩
  exact ⟨_, Heap.get?_push_size _ rfl, rfl⟩
def iEnumT (K : PySem.W.Frag) (ta : TA) : TI := fun σ H R => ta σ H fun vs H1 => ∃ a xs, vs = [.ref a] ∧ SqT K H1 a xs ∧ R (IteT K a) H1
theorem pi_enumT {X : Cx} {e : Expr} {ta : TA} {p pos tpos : Pos} {elts : List Expr} {kk : Nat} (hg : Gl X "enumerate") (hm : X.mg "enumerate" = none) (ha : PA X [e] ta) (one : starEach [e] X.env = [(false, eval e X.env)] := by rfl) :
    PI X (.Tuple elts kk tpos) (.Call (.Name "enumerate" p) [e] [] pos) (iEnumT X.K ta) := by
  constructor
  intro pins s σ H R I h
  refine Call_ (ld_blt I hg hm boot_enumerate (callWith_type1 (thn (ha.run pos pins s σ H _ I h) ?_) one rfl))
  rintro us s1 ⟨vs, H1, I1, r1, a, xs, rfl, hq, q⟩
  obtain ⟨u, rfl, (ru : u = .ref a)⟩ := vals1 r1
  subst ru
  obtain ⟨its, vals, tup, _⟩ := I1.tuple hq
  refine enum_call (begins_tuple a its.toArray) tup (wpAny_pyIter_enum (i := 0) (old := .none) (it := s1.heap.objs.size) ?_ ?_)
  all_goals have sz : (s1.heap.push { cls := .type "tuple_iterator", data := .fields #[.ref a, .int 0 0] }).objs.size = s1.heap.objs.size + 1 := Heap.size_push ..
  all_goals have get := Heap.get?_push_size (s1.heap.push { cls := .type "tuple_iterator", data := .fields #[.ref a, .int 0 0] }) (o := enumOver s1.heap.objs.size) rfl
  all_goals rw [sz] at get
  · exact get
  · have I2 : Inv X pins σ H1 { s1 with heap := (s1.heap.push { cls := .type "tuple_iterator", data := .fields #[.ref a, .int 0 0] }).push (enumOver s1.heap.objs.size) } :=
      I1.kept (t' := s1.toks) fun b ob k => Heap.get?_push_of_some _ (Heap.get?_push_of_some _ k)
    refine ⟨s1.heap.objs.size + 1, [s1.heap.objs.size + 1, s1.heap.objs.size], _, _, H1, rfl, I2, turn_enumT a _ s1.heap.objs.size, ⟨⟨.none, get⟩, ⟨_, Heap.get?_push_of_some _ (Heap.get?_push_size _ rfl), rfl, rfl⟩, Nat.succ_ne_self _⟩, fun b hb => ?_, q⟩
    have above : s1.heap.objs.size ≤ b := by
      rcases (List.mem_cons.mp hb : b = s1.heap.objs.size + 1 ∨ _) with rfl | m
      · exact Nat.le_succ _
      · exact Nat.le_of_eq (List.mem_singleton.mp m).symm
    exact I1.fpOk above (I1.hok.fresh above)
theorem walk_enumT {K : PySem.W.Frag} {a : Addr} {xs : List V} : Walk (IteT K a) xs.length (fun H => SqT K H a xs) (YPair (fun i => some (.int (i : Nat))) (fun i => xs[i]?)) where
  goes := fun i _ hi q => ⟨xs, _, q, List.getElem?_eq_getElem hi⟩
  stops := fun _ q => ⟨xs, q, rfl⟩
  yields := by
    rintro i H v H' _ q ⟨T, x, e1, e2, e3, e4⟩
    exact ⟨T, _, x, e1, e2, e3, rfl, e4 xs q⟩

/-! ### a pair turned by its step: t[::k], k one or minus one -/
section
variable {prog : Program} {w : World} {A : Around} {s : Shared} {E : Value → Shared → Prop}
/-- the slice object [::k] applied to n items -/
theorem applied_stp {sl : Addr} {vs : Value} {k : Int} {n : Nat} {Q : Int × Int × Nat → Shared → Prop} (hs : s.heap.IsSliceOf sl .none .none vs) (ps : IsPart vs (some k)) (h0 : ¬ (k == 0) = true)
    (h : Q ((Builtin.Slice.sliceAdjust none none k (n : Int)).1, k, Builtin.Slice.slicePlaces (Builtin.Slice.sliceAdjust none none k (n : Int)).1 (Builtin.Slice.sliceAdjust none none k (n : Int)).2 k) s) : wpAny (model prog w) A (Builtin.Slice.sliceApplied (.ref sl) (pure (n : Int))) Q E s := by
  obtain ⟨so, hso, _, dso⟩ := id hs
  delta Builtin.Slice.sliceApplied Builtin.Slice.sliceFields
  have read : ∀ {j : Nat} {y : Value} {α : Type} {f : Value → Sem α} {R : α → Shared → Prop}, #[Value.none, Value.none, vs][j]? = some y → wpAny (model prog w) A (f y) R E s → wpAny (model prog w) A (field (.ref sl) j >>= f) R E s := fun e q => wpAny_bind (wpAny_field hso dso e q)
  refine wpAny_bind (read rfl (read rfl (read rfl (wpAny_pure ?_))))
  refine wpAny_bind (HT.slicePart_ ps ?_)
  show wpAny _ _ (if (k == 0) = true then _ else _) _ _ s
  rw [if_neg h0]
  exact wpAny_bind (HT.slicePart_ .none (wpAny_bind (HT.slicePart_ .none (wpAny_bind (wpAny_pure (wpAny_pure h))))))
theorem pair_stp {t sl : Addr} {x y : Value} {vs : Value} {k : Int} {Q : Value → Shared → Prop} (ht : IsTup s.heap t #[x, y]) (hs : s.heap.IsSliceOf sl .none .none vs) (ps : IsPart vs (some k))
    (h : (k = 1 ∧ Q (.ref t) s) ∨ (k = -1 ∧ Q (.ref s.heap.objs.size) { s with heap := s.heap.push { cls := .type "tuple", data := .seq #[y, x] } })) : wpAny (model prog w) A (getItem (.ref t) (.ref sl)) Q E s := by
  have isS : s.TypeIs (.ref sl) "slice" := let ⟨so, a, b, _⟩ := id hs; ⟨so, a, b⟩
  unfold getItem
  refine wpAny_holding (wpAny_bind (wpAny_sequenceKey ht.typeIs (by decide) (wpAny_bind ?_)))
  refine wpAny_callSpecial?_slot (name := Str.ofString "__getitem__") ht.typeIs slot_tuple_getitem ?_
  refine wpAny_call_entry slot_tuple_getitem ht.typeIs entry_tuple_getitem ?_ (args_tuple_getitem _ _)
  show wpAny _ _ (Builtin.Tuple.tupleItemsOf _ >>= _) _ _ s
  refine wpAny_bind (tupleItemsOf_ ht (wpAny_bind (wpAny_typeOf isS ?_)))
  rw [if_pos (by decide)]
  rcases h with ⟨rfl, h⟩ | ⟨rfl, h⟩ <;> refine wpAny_bind (applied_stp (n := 2) hs ps (by decide) ?_)
  · show wpAny _ _ (if (((0 : Int) == 0 && (1 : Int) == 1 && (2 : Nat) == 2) = true) then _ else _) _ _ s
    rw [if_pos (by decide)]
    have whole : wpAny (model prog w) A.in1 (Builtin.Tuple.tupleIsExact (.ref t)) (fun b s' => b = true ∧ s' = s) (fun _ _ => False) s := by
      show wpAny _ _ (typeOf (.ref t) >>= _) _ _ s
      exact wpAny_bind (wpAny_typeOf ht.typeIs (wpAny_pure ⟨by decide, rfl⟩))
    refine wpAny_bind (wpAny_mono whole ?_ fun _ _ z => z.elim)
    rintro b s' ⟨rfl, rfl⟩
    rw [if_pos rfl]
    first | exact wpAny_bind (wpAny_rule (wpAny_pure ⟨_, rfl, wpAny_pure h⟩)) | exact wpAny_bind (wpAny_rule (wpAny_bind (wpAny_pure (wpAny_pure ⟨_, rfl, wpAny_pure h⟩))))
  · show wpAny _ _ (if (((1 : Int) == 0 && (-1 : Int) == 1 && (2 : Nat) == 2) = true) then _ else _) _ _ s
    rw [if_neg (by decide)]
    have sz : sizeOk (.seq #[y, x]) := by show 2 ≤ sizeLine; decide
    first
      | exact wpAny_bind (m := Builtin.Tuple.tupleExact #[y, x]) (wpAny_newObj_type (wpAny_pure ⟨_, rfl, wpAny_pure h⟩) sz)
      | exact wpAny_bind (m := Builtin.Tuple.tupleExact #[y, x]) (wpAny_newObj_type (wpAny_bind (wpAny_pure (wpAny_pure ⟨_, rfl, wpAny_pure h⟩))) sz)
      | exact wpAny_bind (wpAny_bind (m := Builtin.Tuple.tupleExact #[y, x]) (wpAny_newObj_type (wpAny_pure (wpAny_pure ⟨_, rfl, wpAny_pure h⟩)) sz))
      | exact wpAny_bind (wpAny_bind (m := Builtin.Tuple.tupleExact #[y, x]) (wpAny_newObj_type (wpAny_pure ⟨_, rfl, wpAny_pure h⟩) sz))
end
def tStp (K : PySem.W.Frag) (te tk : TE) : TE := fun σ H Q => te σ H fun x H1 => tk σ H1 fun z H2 => ∃ a u v, x = .ref a ∧ SqT K H2 a [u, v] ∧ ((z = .int 1 ∧ Q (.ref a) H2) ∨ (z = .int (-1) ∧ ∀ p, H2 p = none → Q (.ref p) (upd H2 p (.tup [v, u]))))
theorem no_part {X : Cx} {pins : List (Addr × Obj)} {σ : St} {H : Hp} {s : Shared} {Q : Value → Shared → Prop} (I : Inv X pins σ H s) (h : Q .none s) : wpAny (model X.prog X.w) X.A (evalPart none X.env) Q X.xe s := by
  rw [evalPart_none]
  exact wpAny_pure h
theorem pe_stp {X : Cx} {e st : Expr} {te tk : TE} {p3 pos : Pos} (he : PE X e te) (hk : PE X st tk) (hp : ∀ o i, subscripted (.Slice none none (some st) p3) false o i = operate [o, i] (getItem o i) := by intro _ _; rfl) : PE X (.Subscript e (.Slice none none (some st) p3) pos) (tStp X.K te tk) := by
  constructor
  intro pins s σ H Q I h
  refine Subscript_ (thn (he.run pins s σ H _ I h) ?_)
  rintro v s1 ⟨x, H1, I1, r1, q1⟩
  refine wpAny_Slice (no_part I1 (no_part I1 ?_))
  rw [evalPart_some]
  refine thn (hk.run pins s1 σ H1 _ I1 q1) ?_
  rintro vs s2 ⟨z, H2, I2, rz, a, y1, y2, rfl, hx, q⟩
  obtain rfl : v = .ref a := r1
  have I3 : Inv X pins σ H2 { s2 with heap := s2.heap.push { cls := .type "slice", data := .fields #[.none, .none, vs] } } := I2.kept (t' := s2.toks) fun b ob k => Heap.get?_push_of_some _ k
  obtain ⟨its, r, ht, _⟩ := I3.tuple hx
  obtain ⟨w1, w2, rfl, rw1, rw2⟩ := vals2 r
  have isS := Heap.IsSliceOf.new s2.heap .none .none vs
  have isT : Shared.TypeIs { s2 with heap := s2.heap.push { cls := .type "slice", data := .fields #[.none, .none, vs] } } (.ref a) "tuple" := ht.typeIs
  rcases q with ⟨rfl, q⟩ | ⟨rfl, q⟩ <;> obtain ⟨t, rfl⟩ := rz
  · exact tail_any isT slot_tuple_getitem.lookup (pair_stp ht isS (.int 1 t) (.inl ⟨rfl, .ref a, H2, I3, rfl, q⟩)) (hp _ _)
  · have laid := I3.laid (t' := s2.toks) (o := .tup [y2, y1]) (fun b ob k => Heap.get?_push_of_some { cls := .type "tuple", data := .seq #[w2, w1] } k) (Nat.le_refl _) ⟨by show 2 ≤ sizeLine; decide, [w2, w1], .cons rw2 (.cons rw1 .nil), IsTup.new _ _⟩
    exact tail_any isT slot_tuple_getitem.lookup (pair_stp ht isS (.int (-1) t) (.inr ⟨rfl, .ref _, _, laid, rfl, q _ (I3.hok.fresh (Nat.le_refl _))⟩)) (hp _ _)

/-! ### set(list of ints), k not in it -/
def rSetI (K : PySem.W.Frag) : List V → Hp → VK → Prop := fun xs H Q => ∃ (a : Addr) (ns : List Int), xs = [.ref a] ∧ SqL K H a (ns.map V.int) ∧ ns.length + 1 < scanBound ∧ ∀ p S n, H p = none → (∀ k, S k = decide (k ∈ ns)) → Q (.ref p) (upd H p (.set S n))
theorem getD_any (k : Int) : ∀ ns : List Int, (((List.range ns.length).map fun i => ns.getD i 0).any (· == k)) = decide (k ∈ ns) := by
  intro ns
  have e : ((List.range ns.length).map fun i => ns.getD i 0) = ns := by
    apply List.ext_getElem?
    intro i
    rw [List.getElem?_map]
    by_cases h : i < ns.length
    · rw [List.getElem?_range h, List.getElem?_eq_getElem h]
      simp [List.getD_eq_getElem?_getD, List.getElem?_eq_getElem h]
    · rw [List.getElem?_eq_none (by simpa using Nat.le_of_not_lt h), List.getElem?_eq_none (Nat.le_of_not_lt h)]
      rfl
  rw [e]
  by_cases h : k ∈ ns
  · rw [decide_eq_true h]
    exact List.any_eq_true.mpr ⟨k, h, beq_self_eq_true k⟩
  · rw [decide_eq_false h]
    refine List.any_eq_false.mpr fun x hx hb => h ?_
    rw [← eq_of_beq hb]
    exact hx
theorem cr_setI {X : Cx} (hc : X.calm = true) : CallR X (.type "set") (rSetI X.K) := by
  rintro pins s σ H xs us Q I r ⟨a, ns, rfl, hs, hn, q⟩
  obtain ⟨u, rfl, (ru : u = .ref a)⟩ := vals1 r
  subst ru
  obtain ⟨its, rv, hl, few⟩ := I.list hs
  have len : its.length = ns.length := by rw [← rv.length, List.length_map]
  refine call_set_list (I.ok.hd hc) hl.isList (intsAre_of rv) (by rw [List.size_toArray, len]; exact hn) fun h' tk hS hk => ?_
  have laid := I.laid (t' := tk) (o := .set _ _) (fun b o e => hk b o (Heap.lt_size e) e) (Nat.le_refl _) hS
  refine ⟨.ref _, _, laid, rfl, q _ _ _ (I.hok.fresh (Nat.le_refl _)) fun k => ?_⟩
  rw [firstMet_any, List.size_toArray, len]
  exact getD_any k ns
def rSNotI : V → V → Hp → VK → Prop := fun x y H Q => ∃ k a S n, x = V.int k ∧ y = V.ref a ∧ H a = some (.set S n) ∧ Q (.bl (!S k)) H
theorem op_notset {X : Cx} : OpR X (compareOp .NotIn) rSNotI := by
  rintro pins s σ H x y v u Q I rx ry ⟨k, a, S, n, rfl, rfl, ha, q⟩
  obtain ⟨tk, rfl⟩ := rx
  obtain rfl : u = .ref a := ry
  have at_a : s.heap.SetOf (intKind X.prog X.w) a S n := I.hok a _ ha
  exact wpAny_notInSet_of (intKind_is _ _ _ _) rfl at_a ⟨.bl (!S k), H, I.tok _, rfl, q⟩

/-! a def that the top holds; what a caller uses of it -/
def Def (K : PySem.W.Frag) (mg : Str → Option Value) (x : Str) (st : Stmt) : Prop := ∃ (f : Addr) (fd : FuncData), Fun K x x st f fd ∧ mg x = some (.ref f)
def Cal (P : Program) (w : World) (K : PySem.W.Frag) (mg : Str → Option Value) (base : Heap) (x : Str) (ps : List Str) (k : Nat) (sp : Sp) : Prop :=
  ∃ (f : Addr) (fd : FuncData), mg x = some (.ref f) ∧ PySem.W.keepIn K (.ref f) = true ∧ Binds K fd ps [] ∧ FnOk P w K mg base CX0 k f fd ps sp
theorem Def.ok {P : Program} {w : World} {K : PySem.W.Frag} {mg : Str → Option Value} {base : Heap} {x : Str} {st : Stmt} {N ps : List Str} {k : Nat} {sp : Sp} (D : Def K mg x st) (S : FnScope N ps (defScope st))
    (hb : ∀ (kV doc pm : Value) (an : Option Addr) (cdv ct : Value) (us : List Value), us.length = ps.length → bindArgs (PySem.W.fnOf x x (defArgs st) (defBody st) (defScope st) .none kV doc pm an cdv ct) ⟨us, []⟩ = pure (ps.zip us))
    (ar : ∀ vs H Q E, sp vs H Q E → vs.length = ps.length)
    (hbody : ∀ (f : Addr) (cdv : Value) (A : Around) (outer : List Env) (s : Shared) (H : Hp) (vs : List V) (Q : VK) (E : XK), Room k (A.deeper (envOfC x (defScope st) s.heap.objs.size f cdv)) → sp vs H Q E →
      ∃ t, PSs (cxOf CX0 P w K mg base N x (defScope st) f cdv A outer s H E).nox (defBody st) t ∧ t { nx := fun _ H' => Q .non H', rt := Q } (start N vs) H) : Cal P w K mg base x ps (k + 1) sp := by
  obtain ⟨f, fd, F, m⟩ := D
  exact ⟨f, fd, m, F.kp, F.binds hb, F.ok S ar fun cdv A outer s H vs Q E hr h => hbody f cdv A outer s H vs Q E hr h⟩

/-! heaps -/
/-- all but what stands at a is as it was -/
def But (a : Addr) (H H' : Hp) : Prop := ∀ b o, b ≠ a → H b = some o → H' b = some o
theorem Same.but {a : Addr} {H H' : Hp} (s : Same H H') : But a H H' := fun b o _ e => s b o e
theorem But.trans {a : Addr} {H H1 H2 : Hp} (x : But a H H1) (y : But a H1 H2) : But a H H2 := fun b o n e => y b o n (x b o n e)
theorem Same.upd {H : Hp} {p : Addr} {o : HO} (h : H p = none) : Same H (upd H p o) := fun b x e => by
  rw [upd_ne (ne_of_none e h)]
  exact e
theorem But.upd {a : Addr} {H H' : Hp} (x : But a H H') (o : HO) : But a H (upd H' a o) := fun b u n e => by
  rw [upd_ne n]
  exact x b u n e
/-- what is new at p may change: all that stood in H stands -/
theorem Same.at {H H' : Hp} {p : Addr} {o : HO} (s : Same H H') (h : H p = none) : Same H (L2.upd H' p o) := fun b x e => by
  rw [upd_ne (ne_of_none e h)]
  exact s b x e
theorem But.same {a : Addr} {H0 H H' : Hp} (s : Same H0 H) (n : H0 a = none) (b : But a H H') : Same H0 H' := fun c o e => b c o (ne_of_none e n) (s c o e)
theorem Same.tup {K : PySem.W.Frag} {H H' : Hp} {a : Addr} {xs : List V} (e : Same H H') (h : SqT K H a xs) : SqT K H' a xs := by
  rcases h with (z | ⟨o, z⟩) | z
  · exact .inl (.inl (e _ _ z))
  · exact .inl (.inr ⟨o, e a _ z⟩)
  · exact .inr z
theorem But.tup {K : PySem.W.Frag} {H H' : Hp} {g a : Addr} {xs ys : List V} (e : But g H H') (hg : H g = some (.lst ys)) (h : SqT K H a xs) : SqT K H' a xs := by
  rcases h with (z | ⟨o, z⟩) | z
  · exact .inl (.inl (e _ _ (ne_of z hg (by intro q; cases q)) z))
  · exact .inl (.inr ⟨o, e _ _ (ne_of z hg (by intro q; cases q)) z⟩)
  · exact .inr z
theorem ref_same {H H' : Hp} {a : Addr} {o : HO} (s : Same H H') (h : H a = some o) : H' a = some o := s _ _ h
end L2

/-! own rules: an error that a clause has caught and a local keeps behind the clause; its fields, isinstance of it by its own class -/
namespace L2
open PySem PySem.Spec PyProof.Rows
/-- a caught error, kept: its class, its own dict's address -/
def exk (a : Addr) (cls : Value) (d : Option Addr) : HO :=
  .ext fun g => ∃ ob fs, g.get? a = some ob ∧ Zc cls d ob ∧ ob.data = Data.fields fs
theorem exk_ok {P : Program} {w : World} {H : Hp} {g : Heap} {a : Addr} {cls : Value} {d : Option Addr} {ob : Obj} {fs : Array Value} (e : g.get? a = some ob) (z : Zc cls d ob) (f : ob.data = Data.fields fs) : ObjOk P w H g a (exk a cls d) := by
  refine ⟨⟨ob, fs, e, z, f⟩, ⟨ob, e⟩, ?_⟩
  rintro g1 g2 ⟨ob1, fs1, e1, z1, f1⟩ st
  exact ⟨ob1, fs1, st ob1 e1, z1, f1⟩
theorem exk_at {P : Program} {w : World} {H : Hp} {g : Heap} {a : Addr} {cls : Value} {d : Option Addr} (ok : HOk P w H g) (e : H a = some (exk a cls d)) : ∃ ob fs, g.get? a = some ob ∧ Zc cls d ob ∧ ob.data = Data.fields fs := by
  have z : ObjOk P w H g a (.ext _) := ok a _ e
  exact z.1
section
variable {X : Cx} {H : Hp} {s : Shared} {pins : List (Addr × Obj)} {σ : St}
/-- behind the clause the error is an object of the heap as any other -/
theorem Inv.regain {a : Addr} {cls : Value} {d : Option Addr} {ob : Obj} {fs : Array Value} (I : Inv X pins σ H s) (e : s.heap.get? a = some ob) (z : Zc cls d ob) (f : ob.data = Data.fields fs) (n0 : X.s_0.heap.get? a = none)
    (nl : a ≠ X.env.locals) (np : ∀ p ∈ X.pn ++ pins, p.1 ≠ a) (na : H a = none) : Inv X pins σ (upd H a (exk a cls d)) s where
  ok := I.ok
  os := I.os
  bare := I.bare
  base :=
    { keep := I.base.keep
      slot := I.base.slot
      free := fun b o q n x => by
        have ne : b ≠ a := fun y => by rw [y, n0] at q; cases q
        rw [upd_ne ne]
        exact I.base.free b o q n x
      there := I.base.there
      tups := fun b xs q => by
        have q1 := I.base.tups b xs q
        rw [upd_ne (ne_of_none q1 na)]
        exact q1
      frzs := fun b o u q => by
        have q1 := I.base.frzs b o u q
        rw [upd_ne (ne_of_none q1 na)]
        exact q1
      tbls := fun b ps q => by
        obtain ⟨m, q1⟩ := I.base.tbls b ps q
        rw [upd_ne (ne_of_none q1 na)]
        exact ⟨m, q1⟩ }
  loc := I.loc
  cell := I.cell
  free := by
    rw [upd_ne (Ne.symm nl)]
    exact I.free
  freeC := fun x c q => by
    have ne : c ≠ a := fun y => by
      obtain ⟨v, o, q1, q2⟩ := I.cell x c q
      rw [y, e] at q1
      cases q1
      rw [f] at q2
      exact nomatch q2
    rw [upd_ne ne]
    exact I.freeC x c q
  pin := fun p hp => by
    obtain ⟨q1, q2, q3⟩ := I.pin p hp
    rw [upd_ne (np p hp)]
    exact ⟨q1, q2, q3⟩
  hok := fun b o q => by
    by_cases y : b = a
    · subst y
      rw [upd_same] at q
      cases q
      exact exk_ok e z f
    · rw [upd_ne y] at q
      refine (I.hok b o q).stay (fun _ _ _ r => r) (fun c r => ?_) fun c xs r => ?_
      · rw [upd_ne (ne_of_none r na)]
        exact r
      · rw [upd_ne (ne_of_none r na)]
        exact r
  len := I.len
/-- the wish of the clause 'except x as n', the error kept -/
def wKeep (K : PySem.W.Frag) (c : Value) (i : Nat) (ts : Addr → Value → Option Addr → TS) (Wout : WX) (D : Ends) : WX := fun cls d σ H =>
  ∃ y, PySem.W.exmOne K cls c = some y ∧ (y = false → Wout cls d σ H) ∧ (y = true → ∀ a, H a = none →
    ts a cls d ⟨fun σ1 H1 => D.nx (σ1.set i none) (upd H1 a (exk a cls d)), fun v H1 => D.rt v (upd H1 a (exk a cls d)), fun σ1 H1 => D.bk (σ1.set i none) (upd H1 a (exk a cls d)), fun σ1 H1 => D.ct (σ1.set i none) (upd H1 a (exk a cls d))⟩ (σ.set i (some (.ref a))) H)

variable {x n : Str} {c : Value} {i : Nat} {work suite : List Stmt} {st0 : Stmt} {np q1 q2 : Pos} {tw : WX → TS} {ts : Addr → Value → Option Addr → TS} {Wout : WX}
/-- try: work / except x as n: suite, the error kept behind it -/
theorem ps_try_keep (e1 : X.stack = X.env :: X.outer) (e2 : X.env.frame = some X.env.locals) (e3 : X.ex = []) (nd : X.N.Nodup) (ni : X.N[i]? = some n) (nk : X.env.kindOf n = some .local) (nm : Names X x c) (tk : Takes X Wout)
    (W1 : ∀ (W : WX) (pn : List (Addr × Obj)) (xe : Value → Shared → Prop), Takes (X.tr pn xe) W → PassesOwn (model X.prog X.w) X.A X.env xe → PSs (X.tr pn xe) work (tw W))
    (W2 : ∀ (a : Addr) (ob : Obj) (cls : Value) (d : Option Addr) (pn : List (Addr × Obj)), Zc cls d ob → (∃ fs, ob.data = .fields fs) → PSs (X.suite a ((a, ob) :: pn)) (st0 :: suite) (ts a cls d)) :
    PS X (.Try work [.ExceptHandler (some (.Name x np)) (some n) (st0 :: suite) q1] [] [] q2) (fun D σ H => tw (wKeep X.K c i ts Wout D) D σ H) := by
  constructor
  intro pins s σ H D I h
  have ok := I.ok
  have frm : X.A.frames = some (X.env :: X.outer) := ok.frames.trans (congrArg some e1)
  apply wpAny_Try_except
  have caught : ∀ (xe0 : Value → Shared → Prop) (er : Value) (s9 : Shared), XE (X.tr (X.pn ++ pins) xe0) (wKeep X.K c i ts Wout D) er s9 →
      wpAny (model X.prog X.w) X.A (noteFrame er X.env) (fun _ s₂ => wpAny (model X.prog X.w) X.A (setFlight er none) (fun _ s₃ =>
        wpAny (model X.prog X.w) X.A (handleBy er X.env [.ExceptHandler (some (.Name x np)) (some n) (st0 :: suite) q1]) (SP X pins D) X.xe s₃) X.xe s₂) X.xe s9 := by
    rintro xe0 er s9 ⟨a, B, sI, pins1, σ1, H1, cls, d, rfl, J0, nb, up, sky, na, os, ag, y, ey, no, yes⟩
    have J1 : Inv X pins σ1 H1 sI := J0.ofTry ok
    have sky1 : Sky B (X.env :: X.outer) a (Zc cls d) X.env.locals s9.heap := e1 ▸ sky
    refine Sky.land Zc.steady frm e2 sky1 fun g3 fl3 up3 => ?_
    have J3 : Inv X pins σ1 H1 { s9 with heap := g3 } := J1.landed nb fl3.1 (up.trans up3) os ag
    obtain ⟨ob3, fs3, at3, z3, d3⟩ := fl3.there
    have off : ∀ {g : Heap} {ob : Obj} {fs : Array Value}, g.FunFrames B (X.env :: X.outer) → g.get? a = some ob → ob.data = Data.fields fs → a ∉ frs (X.env :: X.outer) := by
      intro g ob fs ff q r m
      obtain ⟨_, o1, r1, r2⟩ := ff.mem m
      rw [q] at r1
      cases r1
      exact r2 _ r
    have n1 := off fl3.2.2.1 at3 d3
    have nL : a ≠ X.env.locals := by
      intro y
      refine n1 (List.mem_filterMap.mpr ⟨X.env, List.mem_cons_self, ?_⟩)
      rw [e2, y]
    have nF : a ∉ X.fs := by
      intro m
      obtain ⟨v, m1, m2⟩ := List.mem_filterMap.mp m
      exact n1 (List.mem_filterMap.mpr ⟨v, List.mem_cons_of_mem _ m1, m2⟩)
    -- the error is new: it stood neither in the state at the raise nor at the def's start
    have nI : sI.heap.get? a = none := by
      cases q : sI.heap.get? a with
      | none => rfl
      | some o =>
        have r := nb a o q (by rw [e1]; exact n1)
        rw [fl3.2.1] at r
        cases r
    have unborn : X.s_0.heap.get? a = none := by
      cases q : X.s_0.heap.get? a with
      | none => rfl
      | some o =>
        obtain ⟨o1, r⟩ := J1.base.there a o q (by rw [e3]; simp)
        rw [nI] at r
        cases r
    have nP : ∀ p ∈ X.pn ++ pins, p.1 ≠ a := by
      intro p m y
      obtain ⟨r, _⟩ := J1.pin p m
      rw [y, nI] at r
      cases r
    have S3 := J3.suite at3 d3 na nL nF
    refine wpAny_handleBy_cons (codeAny_handlers_test ?_) (fun q => by cases q)
    have lt : PySem.W.Looks (model X.prog X.w) g3 (typeOf (.ref a)) cls := by
      intro A Q E sx k q
      refine wpAny_typeOf_ref (k _ _ at3) ?_
      rw [z3.1]
      exact q
    have lm := PySem.W.exm_one (M := model X.prog X.w) J3.kIn lt ey
    have named : ∀ {Q : Value → Shared → Prop} {E : Value → Shared → Prop}, Q c { s9 with heap := g3 } → wpAny (model X.prog X.w) (X.A.mark (some (.ref a))) (eval (.Name x np) X.env) Q E { s9 with heap := g3 } := by
      intro Q E q
      obtain ⟨m1, m2, m3⟩ := nm
      rcases m3 with m3 | ⟨m3, m4, m5⟩
      · exact ld_glob (X := X.suite a ((a, ob3) :: (X.pn ++ pins))) S3 m1 m3 q m2
      · exact ld_blt (X := X.suite a ((a, ob3) :: (X.pn ++ pins))) S3 m1 m3 m4 q m5 m2
    apply named
    apply lm.here
    cases y with
    | true =>
      apply codeAny_handlers_suite_as
      refine HandSPX.lands_againZ fl3 fun g4 fl4 up4 => ?_
      have J4 : Inv X pins σ1 H1 { s9 with heap := g4 } := J1.landed nb fl4.1 ((up.trans up3).trans up4) os ag
      obtain ⟨ob4, fs4, at4, z4, d4⟩ := fl4.there
      have S4 := J4.suite at4 d4 na nL nF
      refine store_ok (X := X.suite a ((a, ob4) :: (X.pn ++ pins))) (v := .ref a) S4 nd ni (.inl nk) rfl (fun s5 S5 => ?_) (.inr nk)
      refine wpAny_mono ((W2 a ob4 cls d (X.pn ++ pins) z4 ⟨_, d4⟩).run [] s5 _ H1 _ S5 (yes rfl a na)) (fun f s6 sp6 => ?_) (fun _ _ z => z.elim)
      have past : ∀ {σ6 : St} {H6 : Hp} {G : Shared → Prop}, Inv (X.suite a ((a, ob4) :: (X.pn ++ pins))) [] σ6 H6 s6 → (∀ s7, Inv X pins (σ6.set i none) (upd H6 a (exk a cls d)) s7 → G s7) →
          wpAny (model X.prog X.w) X.A (do bindName X.env n .none; unbindBehindTheSuite X.env n q1) (fun _ s7 => G s7) X.xe s6 := by
        intro σ6 H6 G S6 g
        obtain ⟨p1, p2, _⟩ := S6.pin (a, ob4) (List.mem_append_left _ List.mem_cons_self)
        exact gone_ok ((S6.unsuite ok).regain p1 z4 d4 unborn nL nP p2) nd ni nk g
      cases f with
      | next =>
        obtain ⟨σ6, H6, S6, r⟩ := sp6
        exact past S6 fun s7 J7 => ⟨_, _, J7, r⟩
      | brk =>
        obtain ⟨σ6, H6, S6, r⟩ := sp6
        exact past S6 fun s7 J7 => ⟨_, _, J7, r⟩
      | cont =>
        obtain ⟨σ6, H6, S6, r⟩ := sp6
        exact past S6 fun s7 J7 => ⟨_, _, J7, r⟩
      | ret u =>
        obtain ⟨v6, σ6, H6, S6, rr, r⟩ := sp6
        exact past S6 fun s7 J7 => ⟨_, _, _, J7, rr, r⟩
    | false =>
      change wpAny _ X.A (handleBy (.ref a) X.env []) _ _ _
      apply wpAny_handleBy_nil
      obtain ⟨_, _, _, ob, fs, T, oT, ts', at_e, z_e, d_e, f_e, r_e⟩ := id fl3
      unfold PySem.passOn
      refine wpAny_bind (wpAny_field at_e d_e f_e ?_)
      rw [if_neg (by simp)]
      have onward : wpAny (model X.prog X.w) X.A (setFlight (.ref a) X.env.frame) (fun _ s4 => wpAny (model X.prog X.w) X.A (throw (.ref a) : Sem Flow) (SP X pins D) X.xe s4) X.xe { s9 with heap := g3 } := by
        rw [e2]
        refine HandSPX.setFlight_upZ fl3 fun g4 hh4 up4 => wpAny_throw (tk _ _ ⟨a, B, sI, pins, σ1, H1, cls, d, rfl, J1, nb, (up.trans up3).trans up4, .inr (.inr ?_), na, os, ag, no rfl⟩)
        rw [e1]
        exact hh4
      first
        | exact wpAny_bind (wpAny_pure (wpAny_bind onward))
        | exact wpAny_bind onward
  refine wpAny_mono ((W1 (wKeep X.K c i ts Wout D) (X.pn ++ pins) _ (fun u s9 xx => caught _ u s9 xx) PassesOwn.looking).run [] s σ H D (I.toTry _) h) (fun f s9 sp => ?_) (fun e s9 he => he)
  cases f with
  | next =>
    obtain ⟨σ1, H1, J1, q⟩ := sp
    exact wpAny_execs_nil ⟨σ1, H1, J1.ofTry ok, q⟩
  | brk =>
    obtain ⟨σ1, H1, J1, q⟩ := sp
    exact ⟨σ1, H1, J1.ofTry ok, q⟩
  | cont =>
    obtain ⟨σ1, H1, J1, q⟩ := sp
    exact ⟨σ1, H1, J1.ofTry ok, q⟩
  | ret u =>
    obtain ⟨v, σ1, H1, J1, r, q⟩ := sp
    exact ⟨v, σ1, H1, J1.ofTry ok, r, q⟩

/-- err.f, err a kept error of the class at C -/
def tKf (C : Addr) (f : Str) (te : TE) : TE := fun σ H Q => te σ H fun v H1 => ∃ (a d : Addr) (fs : List (Str × V)) (y : V), v = .ref a ∧ H1 a = some (exk a (.ref C) (some d)) ∧ H1 d = some (.xd fs) ∧ fs.lookup f = some y ∧ Q y H1
theorem pe_kf {C : Addr} {e : Expr} {te : TE} {pos : Pos} {f : Str} (T : XfC X.K C) (no : PySem.W.findIn X.K (.ref C) f = some none) (he : PE X e te) (hb : attributeBase e f X.env (eval e X.env) = eval e X.env := by rfl) : PE X (.Attribute e f pos) (tKf C f te) := by
  constructor
  intro pins s σ H Q I h
  refine attr_of hb (thn (he.run pins s σ H _ I h) ?_)
  rintro u s1 ⟨v, H1, I1, rv, a, d, fs, y, rfl, ha, hd, l, q⟩
  obtain rfl : u = Value.ref a := rv
  obtain ⟨ob, vs, g1, z, g2⟩ := exk_at I1.hok ha
  have od1 : ObjOk X.prog X.w H1 s1.heap d (.xd fs) := I1.hok d _ hd
  obtain ⟨m, ns, rl⟩ := od1
  obtain ⟨od, o1, o2⟩ := lookIn_ns ns
  have rl' := rl f
  rw [l] at rl'
  obtain ⟨u, hu, ru⟩ := RelO.some_of (v := y) (o := m f) rl'
  have J : PySem.W.InstAt s1.heap a ob C (some od) := by
    refine ⟨g1, z.1, ?_, ?_⟩
    · unfold PySem.W.notCls
      rw [g2] <;> rfl
    · rw [z.2]
      exact o1
  refine HandSPX.exc_get I1.kIn J T.ga T.gg T.exC (PySem.W.findObj_own T.hdC no rfl ?_) (handed_of ru) ⟨y, H1, I1.tok _, ru, q⟩
  rw [o2, hu]

/-- isinstance(err, C), err of just that class -/
def rIsK (C : Addr) : List V → Hp → VK → Prop := fun xs H Q => ∃ (a : Addr) (d : Option Addr), xs = [.ref a, .ref C] ∧ H a = some (exk a (.ref C) d) ∧ Q (.bl true) H
theorem answers_self {a : Addr} {c : Value} : Answers (fun s => ∃ ob, s.heap.get? a = some ob ∧ ob.cls = c) (.ref a) c true := by
  intro dep tk prog w A R s hs
  obtain ⟨g, g2, d, tt, os⟩ := s
  obtain ⟨⟨ob, e, z⟩, q⟩ := hs
  have lt : PySem.W.Looks (model prog w) g (typeOf (.ref a)) c := by
    intro A Q E sx k q
    refine wpAny_typeOf_ref (k _ _ e) ?_
    rw [z]
    exact q
  (unfold Builtin.«isinstance.nested»)
  refine wpAny_bind (lt.at ?_)
  rw [if_pos (beq_self_eq_true c)]
  first
    | exact wpAny_bind (wpAny_rule (q tt))
    | exact wpAny_bind (wpAny_rule (wpAny_pure (q tt)))
    | exact wpAny_pure (q tt)
theorem call_isK {C : Addr} : CallR X (.builtin "isinstance") (rIsK C) := by
  rintro pins s σ H xs us Q I r ⟨a, d, rfl, e, q⟩
  obtain ⟨y1, y2, rfl, ry1, ry2⟩ := vals2 r
  obtain rfl : y1 = Value.ref a := ry1
  obtain rfl : y2 = Value.ref C := ry2
  obtain ⟨ob, vs, g1, z, g2⟩ := exk_at I.hok e
  exact call_isinstance (S := fun _ R s => (∃ ob, s.heap.get? a = some ob ∧ ob.cls = .ref C) ∧ ∀ tk, R (.ok (.ret (.bool true))) { s with toks := tk })
    (fun prog w A R s hs => isinstance_outer (answers_self 0 _ prog w A R s hs) (fun z => nomatch z)) ⟨⟨ob, g1, z.1⟩, fun tk => ⟨.bl true, H, I.tok tk, rfl, q⟩⟩
end
end L2

namespace K5
open PySem PySem.Spec PyProof.Rows L2
def top (i : Nat) : Stmt := PySem.Challenge.pw_lastthrough_k40_kept_bits.main.body.getD i (.Pass ⟨0, 0, 0, 0⟩)
abbrev s_is_whole : Stmt := top 8
abbrev N_is_whole : List Str := ["value"]
theorem sc_is_whole : FnScope N_is_whole ["value"] (defScope s_is_whole) := ⟨rfl, rfl, rfl, by decide +kernel, rfl, by decide +kernel, by decide +kernel⟩
abbrev s_is_index : Stmt := top 9
abbrev N_is_index : List Str := ["value", "count"]
theorem sc_is_index : FnScope N_is_index ["value", "count"] (defScope s_is_index) := ⟨rfl, rfl, rfl, by decide +kernel, rfl, by decide +kernel, by decide +kernel⟩
abbrev s_is_door : Stmt := top 10
abbrev N_is_door : List Str := ["value", "count", "a", "b"]
theorem sc_is_door : FnScope N_is_door ["value", "count"] (defScope s_is_door) := ⟨rfl, rfl, rfl, by decide +kernel, rfl, by decide +kernel, by decide +kernel⟩
abbrev s_check_house : Stmt := top 11
abbrev N_check_house : List Str := ["value", "door", "ends", "ring"]
theorem sc_check_house : FnScope N_check_house ["value"] (defScope s_check_house) := ⟨rfl, rfl, rfl, by decide +kernel, rfl, by decide +kernel, by decide +kernel⟩
abbrev s_first_ring : Stmt := top 12
abbrev N_first_ring : List Str := ["doors", "links", "door", "a", "b", "a_root", "b_root"]
theorem sc_first_ring : FnScope N_first_ring ["doors"] (defScope s_first_ring) := ⟨rfl, rfl, rfl, by decide +kernel, rfl, by decide +kernel, by decide +kernel⟩
abbrev s_find_root : Stmt := top 13
abbrev N_find_root : List Str := ["links", "room"]
theorem sc_find_root : FnScope N_find_root ["links", "room"] (defScope s_find_root) := ⟨rfl, rfl, rfl, by decide +kernel, rfl, by decide +kernel, by decide +kernel⟩
abbrev s_need_house : Stmt := top 14
abbrev N_need_house : List Str := ["house", "reason"]
theorem sc_need_house : FnScope N_need_house ["house"] (defScope s_need_house) := ⟨rfl, rfl, rfl, by decide +kernel, rfl, by decide +kernel, by decide +kernel⟩
abbrev s_need_room : Stmt := top 15
abbrev N_need_room : List Str := ["house", "room"]
theorem sc_need_room : FnScope N_need_room ["house", "room"] (defScope s_need_room) := ⟨rfl, rfl, rfl, by decide +kernel, rfl, by decide +kernel, by decide +kernel⟩
abbrev s_exits_of : Stmt := top 16
abbrev N_exits_of : List Str := ["house", "exits", "room", "door", "a", "b"]
theorem sc_exits_of : FnScope N_exits_of ["house"] (defScope s_exits_of) := ⟨rfl, rfl, rfl, by decide +kernel, rfl, by decide +kernel, by decide +kernel⟩
abbrev s_ways_from : Stmt := top 17
abbrev N_ways_from : List Str := ["house", "room", "shut", "exits", "shut_doors", "ways", "waiting", "here", "door", "there"]
theorem sc_ways_from : FnScope N_ways_from ["house", "room", "shut"] (defScope s_ways_from) := ⟨rfl, rfl, rfl, by decide +kernel, rfl, by decide +kernel, by decide +kernel⟩
abbrev s_steps_along : Stmt := top 18
abbrev N_steps_along : List Str := ["ways", "room", "steps", "here", "door", "there"]
theorem sc_steps_along : FnScope N_steps_along ["ways", "room"] (defScope s_steps_along) := ⟨rfl, rfl, rfl, by decide +kernel, rfl, by decide +kernel, by decide +kernel⟩
abbrev s_steps_between : Stmt := top 19
abbrev N_steps_between : List Str := ["house", "a", "b"]
theorem sc_steps_between : FnScope N_steps_between ["house", "a", "b"] (defScope s_steps_between) := ⟨rfl, rfl, rfl, by decide +kernel, rfl, by decide +kernel, by decide +kernel⟩
abbrev s_doors_between : Stmt := top 20
abbrev N_doors_between : List Str := ["house", "a", "b", "door", "start", "end"]
theorem sc_doors_between : FnScope N_doors_between ["house", "a", "b"] (defScope s_doors_between) := ⟨rfl, rfl, rfl, by decide +kernel, rfl, by decide +kernel, by decide +kernel⟩
abbrev s_has_state_shape : Stmt := top 22
abbrev N_has_state_shape : List Str := ["house", "value", "rooms", "barred"]
theorem sc_has_state_shape : FnScope N_has_state_shape ["house", "value"] (defScope s_has_state_shape) := ⟨rfl, rfl, rfl, by decide +kernel, rfl, by decide +kernel, by decide +kernel⟩
abbrev s_check_state : Stmt := top 23
abbrev N_check_state : List Str := ["house", "value", "rooms", "barred", "person", "room", "door"]
theorem sc_check_state : FnScope N_check_state ["house", "value"] (defScope s_check_state) := ⟨rfl, rfl, rfl, by decide +kernel, rfl, by decide +kernel, by decide +kernel⟩
abbrev s_need_state : Stmt := top 24
abbrev N_need_state : List Str := ["house", "state", "reason"]
theorem sc_need_state : FnScope N_need_state ["house", "state"] (defScope s_need_state) := ⟨rfl, rfl, rfl, by decide +kernel, rfl, by decide +kernel, by decide +kernel⟩
abbrev s_need_pair : Stmt := top 26
abbrev N_need_pair : List Str := ["state"]
theorem sc_need_pair : FnScope N_need_pair ["state"] (defScope s_need_pair) := ⟨rfl, rfl, rfl, by decide +kernel, rfl, by decide +kernel, by decide +kernel⟩
abbrev s_need_bits : Stmt := top 27
abbrev N_need_bits : List Str := ["house", "bits", "bit"]
theorem sc_need_bits : FnScope N_need_bits ["house", "bits"] (defScope s_need_bits) := ⟨rfl, rfl, rfl, by decide +kernel, rfl, by decide +kernel, by decide +kernel⟩
abbrev s_need_bits_and_rooms : Stmt := top 28
abbrev N_need_bits_and_rooms : List Str := ["house", "bits", "a", "b"]
theorem sc_need_bits_and_rooms : FnScope N_need_bits_and_rooms ["house", "bits", "a", "b"] (defScope s_need_bits_and_rooms) := ⟨rfl, rfl, rfl, by decide +kernel, rfl, by decide +kernel, by decide +kernel⟩
abbrev s_turned_on_path : Stmt := top 29
abbrev N_turned_on_path : List Str := ["house", "persons", "a", "b", "between", "door", "person"]
theorem sc_turned_on_path : FnScope N_turned_on_path ["house", "persons", "a", "b"] (defScope s_turned_on_path) := ⟨rfl, rfl, rfl, by decide +kernel, rfl, by decide +kernel, by decide +kernel⟩
abbrev s_kept_bits : Stmt := top 30
abbrev N_kept_bits : List Str := ["house", "state", "a", "b"]
theorem sc_kept_bits : FnScope N_kept_bits ["house", "state"] (defScope s_kept_bits) := ⟨rfl, rfl, rfl, by decide +kernel, rfl, by decide +kernel, by decide +kernel⟩
abbrev s_state_of_bits : Stmt := top 31
abbrev N_state_of_bits : List Str := ["house", "bits", "a", "b"]
theorem sc_state_of_bits : FnScope N_state_of_bits ["house", "bits", "a", "b"] (defScope s_state_of_bits) := ⟨rfl, rfl, rfl, by decide +kernel, rfl, by decide +kernel, by decide +kernel⟩
abbrev s_can_meet : Stmt := top 32
abbrev N_can_meet : List Str := ["house", "bits", "a", "b", "along"]
theorem sc_can_meet : FnScope N_can_meet ["house", "bits", "a", "b"] (defScope s_can_meet) := ⟨rfl, rfl, rfl, by decide +kernel, rfl, by decide +kernel, by decide +kernel⟩
abbrev s_can_follow : Stmt := top 33
abbrev N_can_follow : List Str := ["house", "bits", "a", "b", "along"]
theorem sc_can_follow : FnScope N_can_follow ["house", "bits", "a", "b"] (defScope s_can_follow) := ⟨rfl, rfl, rfl, by decide +kernel, rfl, by decide +kernel, by decide +kernel⟩
abbrev s_bits_along : Stmt := top 34
abbrev N_bits_along : List Str := ["house", "bits", "a", "b", "door"]
theorem sc_bits_along : FnScope N_bits_along ["house", "bits", "a", "b"] (defScope s_bits_along) := ⟨rfl, rfl, rfl, by decide +kernel, rfl, by decide +kernel, by decide +kernel⟩
abbrev s_l_cell : Stmt := top 36
abbrev N_l_cell : List Str := ["_law_script", "_law_index"]
theorem sc_l_cell : FnScope N_l_cell ["_law_script", "_law_index"] (defScope s_l_cell) := ⟨rfl, rfl, rfl, by decide +kernel, rfl, by decide +kernel, by decide +kernel⟩
abbrev s_l_hash : Stmt := top 37
abbrev N_l_hash : List Str := ["_law_seed", "_law_index", "_law_mixed"]
theorem sc_l_hash : FnScope N_l_hash ["_law_seed", "_law_index"] (defScope s_l_hash) := ⟨rfl, rfl, rfl, by decide +kernel, rfl, by decide +kernel, by decide +kernel⟩
abbrev s_l_generator : Stmt := top 38
abbrev N_l_generator : List Str := ["_law_script", "_law_index", "_law_seed"]
theorem sc_l_generator : FnScope N_l_generator ["_law_script", "_law_index"] (defScope s_l_generator) := ⟨rfl, rfl, rfl, by decide +kernel, rfl, by decide +kernel, by decide +kernel⟩
abbrev s_l_random : Stmt := top 39
abbrev N_l_random : List Str := ["_law_generator_here", "_law_bound", "_law_drawn", "_law_part"]
theorem sc_l_random : FnScope N_l_random ["_law_generator_here", "_law_bound"] (defScope s_l_random) := ⟨rfl, rfl, rfl, by decide +kernel, rfl, by decide +kernel, by decide +kernel⟩
abbrev s_l_shuffled : Stmt := top 40
abbrev N_l_shuffled : List Str := ["_law_generator_here", "_law_items", "_law_pool", "_law_item"]
theorem sc_l_shuffled : FnScope N_l_shuffled ["_law_generator_here", "_law_items"] (defScope s_l_shuffled) := ⟨rfl, rfl, rfl, by decide +kernel, rfl, by decide +kernel, by decide +kernel⟩
abbrev s_l_random_house : Stmt := top 41
abbrev N_l_random_house : List Str := ["_law_generator_here", "_law_most", "_law_size", "_law_kind", "_law_doors", "_law_room", "_law_other", "_law_names", "_law_renamed", "_law_one", "_law_ends"]
theorem sc_l_random_house : FnScope N_l_random_house ["_law_generator_here", "_law_most"] (defScope s_l_random_house) := ⟨rfl, rfl, rfl, by decide +kernel, rfl, by decide +kernel, by decide +kernel⟩
abbrev s_l_random_state : Stmt := top 42
abbrev N_l_random_state : List Str := ["_law_generator_here", "_law_doors", "_law_people", "_law_size", "_law_spread", "_law_places", "_law_person", "_law_door"]
theorem sc_l_random_state : FnScope N_l_random_state ["_law_generator_here", "_law_doors", "_law_people"] (defScope s_l_random_state) := ⟨rfl, rfl, rfl, by decide +kernel, rfl, by decide +kernel, by decide +kernel⟩
abbrev s_l_neighbours : Stmt := top 43
abbrev N_l_neighbours : List Str := ["_law_doors", "_law_place", "_law_found", "_law_index", "_law_ends"]
theorem sc_l_neighbours : FnScope N_l_neighbours ["_law_doors", "_law_place"] (defScope s_l_neighbours) := ⟨rfl, rfl, rfl, by decide +kernel, rfl, by decide +kernel, by decide +kernel⟩
abbrev s_l_moved : Stmt := top 44
abbrev N_l_moved : List Str := ["_law_doors", "_law_position", "_law_step", "_law_person", "_law_start", "_law_end", "_law_places", "_law_bars", "_law_index", "_law_other", "_law_number", "_law_new_places"]
theorem sc_l_moved : FnScope N_l_moved ["_law_doors", "_law_position", "_law_step"] (defScope s_l_moved) := ⟨rfl, rfl, rfl, by decide +kernel, rfl, by decide +kernel, by decide +kernel⟩
abbrev s_l_steps : Stmt := top 45
abbrev N_l_steps : List Str := ["_law_doors", "_law_position", "_law_steps_here", "_law_person", "_law_place", "_law_other", "_law_index"]
theorem sc_l_steps : FnScope N_l_steps ["_law_doors", "_law_position"] (defScope s_l_steps) := ⟨rfl, rfl, rfl, by decide +kernel, rfl, by decide +kernel, by decide +kernel⟩
abbrev s_l_random_steps : Stmt := top 46
abbrev N_l_random_steps : List Str := ["_law_generator_here", "_law_doors", "_law_position", "_law_most", "_law_steps_here", "_law_attempt", "_law_allowed", "_law_step"]
theorem sc_l_random_steps : FnScope N_l_random_steps ["_law_generator_here", "_law_doors", "_law_position", "_law_most"] (defScope s_l_random_steps) := ⟨rfl, rfl, rfl, by decide +kernel, rfl, by decide +kernel, by decide +kernel⟩
abbrev s_l_way : Stmt := top 47
abbrev N_l_way : List Str := ["_law_doors", "_law_start", "_law_end", "_law_before", "_law_waiting", "_law_here", "_law_other", "_law_index", "_law_way_here"]
theorem sc_l_way : FnScope N_l_way ["_law_doors", "_law_start", "_law_end"] (defScope s_l_way) := ⟨rfl, rfl, rfl, by decide +kernel, rfl, by decide +kernel, by decide +kernel⟩
abbrev s_l_bits : Stmt := top 48
abbrev N_l_bits : List Str := ["_law_doors", "_law_position", "_law_way_here", "_law_bits_here", "_law_index", "_law_bar"]
theorem sc_l_bits : FnScope N_l_bits ["_law_doors", "_law_position"] (defScope s_l_bits) := ⟨rfl, rfl, rfl, by decide +kernel, rfl, by decide +kernel, by decide +kernel⟩
abbrev s_l_region : Stmt := top 49
abbrev N_l_region : List Str := ["_law_doors", "_law_position", "_law_person", "_law_found", "_law_index", "_law_other", "_law_number"]
theorem sc_l_region : FnScope N_l_region ["_law_doors", "_law_position", "_law_person"] (defScope s_l_region) := ⟨rfl, rfl, rfl, by decide +kernel, rfl, by decide +kernel, by decide +kernel⟩
abbrev s_l_rooms_right : Stmt := top 50
abbrev N_l_rooms_right : List Str := ["_law_doors", "_law_bits_here", "_law_one", "_law_other", "_law_position", "_law_word", "_law_index", "_law_first", "_law_second", "_law_person", "_law_shared", "_law_room"]
theorem sc_l_rooms_right : FnScope N_l_rooms_right ["_law_doors", "_law_bits_here", "_law_one", "_law_other"] (defScope s_l_rooms_right) := ⟨rfl, rfl, rfl, by decide +kernel, rfl, by decide +kernel, by decide +kernel⟩
abbrev s_law : Stmt := top 51
abbrev N_law : List Str := ["_law_script", "_law_index", "_law_generator_here", "_law_doors", "_law_position", "_law_steps_here", "_law_final", "_law_bits_here", "_law_current", "_law_step", "_law_attempt", "_law_one", "_law_other", "_law_person"]
theorem sc_law : FnScope N_law ["_law_script"] (defScope s_law) := ⟨rfl, rfl, rfl, by decide +kernel, rfl, by decide +kernel, by decide +kernel⟩
/-- the built-ins that the text calls stand as they were -/
structure Bl (mg : Str → Option Value) : Prop where
  len : mg "len" = none
  isinstance : mg "isinstance" = none
  enumerate : mg "enumerate" = none
  range : mg "range" = none
  list : mg "list" = none
  set : mg "set" = none
  sorted : mg "sorted" = none
  max : mg "max" = none
  min : mg "min" = none
  tuple : mg "tuple" = none
  int : mg "int" = none
  bool : mg "bool" = none
  all : mg "all" = none

/-- a house at a: a tuple of tuples -/
def HouseAt (K : PySem.W.Frag) (H : Hp) (a : Addr) (ds : List (Nat × Nat)) : Prop :=
  ∃ rs : List Addr, SqT K H a (rs.map V.ref) ∧ rs.length = ds.length ∧ ∀ (d : Nat) (r : Addr) (e : Nat × Nat), rs[d]? = some r → ds[d]? = some e → SqT K H r [.int e.1, .int e.2]
section
variable {K : PySem.W.Frag} {H H' : Hp} {a g : Addr} {ds : List (Nat × Nat)}
theorem HouseAt.same (h : HouseAt K H a ds) (s : Same H H') : HouseAt K H' a ds := by
  obtain ⟨rs, h1, h2, h3⟩ := h
  exact ⟨rs, s.tup h1, h2, fun d r e x y => s.tup (h3 d r e x y)⟩
theorem HouseAt.but {xs : List V} (h : HouseAt K H a ds) (hg : H g = some (.lst xs)) (s : But g H H') : HouseAt K H' a ds := by
  obtain ⟨rs, h1, h2, h3⟩ := h
  exact ⟨rs, s.tup hg h1, h2, fun d r e x y => s.tup hg (h3 d r e x y)⟩
theorem ty_tup {xs : List V} (h : SqT K H a xs) : TyX K H (.ref a) (.type "tuple") := by
  rcases h with (h | ⟨o, h⟩) | ⟨o, its, n, h, c, _⟩
  · exact .base (.tup h)
  · exact .fTuple h
  · exact .kTuple h c
end
end K5

namespace K5
open PySem PySem.Spec PyProof.Rows L2
def spWhole : Sp := fun vs H Q _ => ∃ i : Int, vs = [.int i] ∧ Q (.bl true) H
def spIndex : Sp := fun vs H Q _ => ∃ i n : Int, vs = [.int i, .int n] ∧ Q (.bl (decide (0 ≤ i ∧ i < n))) H
def spDoor (K : PySem.W.Frag) : Sp := fun vs H Q _ => ∃ (a : Addr) (x y n : Int), vs = [.ref a, .int n] ∧ SqT K H a [.int x, .int y] ∧ (0 ≤ x ∧ x < n) ∧ (0 ≤ y ∧ y < n) ∧ x ≠ y ∧ Q (.bl true) H
section
variable {P : Program} {w : World} {K : PySem.W.Frag}
      {mg : Str → Option Value} {base : Heap}
theorem ok_is_whole (T : Bl mg) (D : Def K mg "is_whole" s_is_whole) : Cal P w K mg base "is_whole" ["value"] 1 spWhole := by
  refine D.ok sc_is_whole (fun _ _ _ _ _ _ us hl => match us, hl with | [_], _ => rfl) (fun vs H Q E h => ?_) (fun f cdv A outer s H vs Q E hr h => ?_)
  · obtain ⟨i, rfl, _⟩ := h
    rfl
  obtain ⟨i, rfl, q⟩ := h
  refine ⟨_, (pss_one (ps_ret (pe_and (pe_callB call_isi (by rfl) T.isinstance (by decide +kernel) (pa_cons (pv 0) (pa_cons (pe_bltn (v := .ty "int") (u := .type "int") (by rfl) T.int (by decide +kernel) rfl) pa_nil))) (pe_one (pe_not (pe_callB call_isi (by rfl) T.isinstance (by decide +kernel) (pa_cons (pv 0) (pa_cons (pe_bltn (v := .ty "bool") (u := .type "bool") (by rfl) T.bool (by decide +kernel) rfl) pa_nil)))))))), ?_⟩
  refine ⟨_, rfl, _, _, _, _, _, rfl, .ty _, .base (.int _), kit_ty (r := true) (by decide +kernel), _, rfl, iteT ?_⟩
  refine ⟨_, rfl, _, _, _, _, _, rfl, .ty _, .base (.int _), kit_ty (r := false) (by decide +kernel), _, rfl, q⟩
theorem ok_is_index (T : Bl mg) (D : Def K mg "is_index" s_is_index) (C_is_whole : Cal P w K mg base "is_whole" ["value"] 1 spWhole) : Cal P w K mg base "is_index" ["value", "count"] 2 spIndex := by
  refine D.ok sc_is_index (fun _ _ _ _ _ _ us hl => match us, hl with | [_, _], _ => rfl) (fun vs H Q E h => ?_) (fun f cdv A outer s H vs Q E hr h => ?_)
  · obtain ⟨i, n, rfl, _⟩ := h
    rfl
  obtain ⟨i, n, rfl, q⟩ := h
  obtain ⟨f_is_whole, fd_is_whole, g_is_whole, k_is_whole, b_is_whole, G_is_whole⟩ := C_is_whole
  refine ⟨_, (pss_one (ps_ret (pe_and (pe_call G_is_whole (hr.mono (by decide)) (by rfl) g_is_whole k_is_whole b_is_whole .nil pass0 (pa_cons (pv 0) pa_nil)) (pe_one (pe_chain op_le op_lt pe_int (pv 0) (pv 1)))))), ?_⟩
  refine ⟨_, rfl, _, rfl, _, rfl, iteT ?_⟩
  refine ⟨_, rfl, _, _, rfl, rfl, _, rfl, ite2 (fun h => ?_) (fun h => ?_)⟩
  · have h := of_decide_eq_true h
    refine ⟨_, rfl, _, _, rfl, rfl, ?_⟩
    have e : decide (i < n) = decide (0 ≤ i ∧ i < n) := by simp [h]
    show Q (.bl (decide (i < n))) H
    rw [e]
    exact q
  · have e : false = decide (0 ≤ i ∧ i < n) := by
      have h : ¬ 0 ≤ i := fun z => h (decide_eq_true z)
      simp [h]
    show Q (.bl false) H
    rw [e]
    exact q
theorem ok_is_door (T : Bl mg) (D : Def K mg "is_door" s_is_door) (C_is_index : Cal P w K mg base "is_index" ["value", "count"] 2 spIndex) : Cal P w K mg base "is_door" ["value", "count"] 3 (spDoor K) := by
  refine D.ok sc_is_door (fun _ _ _ _ _ _ us hl => match us, hl with | [_, _], _ => rfl) (fun vs H Q E h => ?_) (fun f cdv A outer s H vs Q E hr h => ?_)
  · obtain ⟨a, x, y, n, rfl, _⟩ := h
    rfl
  obtain ⟨a, x, y, n, rfl, ht, hx, hy, hne, q⟩ := h
  obtain ⟨f_is_index, fd_is_index, g_is_index, k_is_index, b_is_index, G_is_index⟩ := C_is_index
  refine ⟨_, (pss_cons (ps_if (PW.pt (pw_or (pt_not (pt_val (pe_callB call_isi (by rfl) T.isinstance (by decide +kernel) (pa_cons (pv 0) (pa_cons (pe_bltn (v := .ty "tuple") (u := .type "tuple") (by rfl) T.tuple (by decide +kernel) rfl) pa_nil))))) (pw_or1 (pt_cmpR op_ne (pe_callB call_len_seq (by rfl) T.len PySem.boot_len (pa_cons (pv 0) pa_nil)) pe_int (nomark _))))) (pss_one (ps_ret pe_bl)) pss_nil)
    (pss_cons (ps_asg (pv 0) (pg_tup (n := 2) rfl (pgs_cons (pg_name (i := 2) sc_is_door.nd rfl (.inl rfl)) (pgs_cons (pg_name (i := 3) sc_is_door.nd rfl (.inl rfl)) pgs_nil))))
    (pss_one (ps_ret (pe_and (pe_call G_is_index (hr.mono (by decide)) (by rfl) g_is_index k_is_index b_is_index .nil pass0 (pa_cons (pv 2) (pa_cons (pv 1) pa_nil))) (pe_and (pe_call G_is_index (hr.mono (by decide)) (by rfl) g_is_index k_is_index b_is_index .nil pass0 (pa_cons (pv 3) (pa_cons (pv 1) pa_nil))) (pe_one (pe_cmpR op_ne (pv 2) (pv 3) (nomark _))))))))), ?_⟩
  refine ⟨_, rfl, _, _, _, _, _, rfl, .ty _, ty_tup ht, kit_ty (r := true) (by decide +kernel), _, rfl, iteF ?_⟩
  refine ⟨_, rfl, _, _, rfl, .inr ht, rfl, _, rfl, iteF ?_⟩
  refine ⟨_, rfl, _, _, rfl, ht, rfl, _, _, rfl, _, _, rfl, rfl, ?_⟩
  refine ⟨_, rfl, _, rfl, _, _, rfl, _, rfl, ?_⟩
  rw [decide_eq_true hx]
  refine iteT ⟨_, rfl, _, rfl, _, _, rfl, _, rfl, ?_⟩
  rw [decide_eq_true hy]
  refine iteT ⟨_, rfl, _, rfl, rfl, ?_⟩
  rw [decide_eq_false (show ¬ V.int x = V.int y from fun z => hne (V.int.inj z))]
  exact q
end
end K5

namespace K5
open PySem PySem.Spec PyProof.Rows L2
/-- a list of numbers as values -/
def nv (L : List Nat) : List V := L.map fun (x : Nat) => V.int (x : Int)
theorem nv_len (L : List Nat) : (nv L).length = L.length := by unfold nv; rw [List.length_map]
theorem nv_get {L : List Nat} {x y : Nat} (h : L[x]? = some y) : (nv L)[x]? = some (.int (y : Int)) := by
  unfold nv
  rw [List.getElem?_map, h]
  rfl
theorem nv_set (L : List Nat) (x y : Nat) : (nv L).set x (.int (y : Int)) = nv (L.set x y) := by
  unfold nv
  rw [List.map_set]
theorem nv_at {L : List Nat} {x y : Nat} (h : L[x]? = some y) : atI (nv L) (x : Int) = some (.int (y : Int)) := atI_nat (nv_get h)
theorem ixN_nat {n x : Nat} (h : x < n) : ixN n (x : Int) = some x := by
  unfold ixN
  rw [if_pos (by omega), if_pos (by omega), Int.toNat_natCast]
theorem upd_self {H : Hp} {p : Addr} {o : HO} (h : H p = some o) : upd H p o = H := by
  funext b
  unfold upd
  by_cases e : b = p
  · rw [if_pos e, e, h]
  · rw [if_neg e]
theorem get_of {α : Type} {L : List α} {n x : Nat} (h : L.length = n) (hx : x < n) : ∃ y, L[x]? = some y := ⟨_, List.getElem?_eq_getElem (h ▸ hx)⟩
theorem rgV_nat (n : Nat) : rgV 0 (n : Int) = nv (List.range n) := by
  unfold rgV nv
  rw [show ((n : Int) - 0).toNat = n by omega]
  apply List.map_congr_left
  intro i _
  rw [Int.zero_add]
theorem dec_ne {i j : Int} (h : i ≠ j) : decide (V.int i = V.int j) = false := decide_eq_false fun z => h (V.int.inj z)
theorem dec_eq (i : Int) : decide (V.int i = V.int i) = true := decide_eq_true rfl
def spFind : Sp := fun vs H Q _ => ∃ (p : Addr) (L : List Nat) (n : Nat) (rank : Nat → Nat) (R : Nat → Nat → Prop) (room : Nat), vs = [.ref p, .int (room : Int)] ∧ H p = some (.lst (nv L)) ∧ Uf n L rank R ∧
  (∀ a b c, R a b → R b c → R a c) ∧ (∀ a, R a a) ∧ room < n ∧ ∀ (L' : List Nat) (r : Nat), Uf n L' rank R → R room r → L'[r]? = some r → (∀ x : Nat, L[x]? = some x → L'[x]? = some x) → Q (.int (r : Nat)) (upd H p (.lst (nv L')))
def spRing (K : PySem.W.Frag) : Sp := fun vs H Q _ => ∃ (a : Addr) (ds : List (Nat × Nat)) (n : Nat), vs = [.ref a] ∧ HouseAt K H a ds ∧ Tree n ds ∧ n ≤ 1000 ∧ ∀ H', Same H H' → Q .non H'
section
variable {P : Program} {w : World} {K : PySem.W.Frag}
      {mg : Str → Option Value} {base : Heap}
theorem ok_find_root (T : Bl mg) (D : Def K mg "find_root" s_find_root) : Cal P w K mg base "find_root" ["links", "room"] 1 spFind := by
  refine D.ok sc_find_root (fun _ _ _ _ _ _ us hl => match us, hl with | [_, _], _ => rfl) (fun vs H Q E h => ?_) (fun f cdv A outer s H vs Q E hr h => ?_)
  · obtain ⟨p, L, n, rank, R, room, rfl, _⟩ := h
    rfl
  obtain ⟨p, L, n, rank, R, room, rfl, hp, u, tr, rf, hlt, q⟩ := h
  refine ⟨_, (pss_cons (ps_while PassesOwn.never (pt_cmpR op_ne (pe_ix ix_list (pv 0) (pv 1) (fun _ _ => rfl)) (pv 1) (nomark _)) (pss_cons (ps_asg (pe_ix ix_list (pv 0) (pe_ix ix_list (pv 0) (pv 1) (fun _ _ => rfl)) (fun _ _ => rfl)) (pg_sub (pv 0) (pv 1) set_list))
    (pss_one (ps_set (i := 1) sc_find_root.nd rfl (.inl rfl) (pe_ix ix_list (pv 0) (pv 1) (fun _ _ => rfl))))))
    (pss_one (ps_ret (pv 1)))), ?_⟩
  refine ⟨fun m σ H1 => ∃ (L1 : List Nat) (r : Nat), m = rank r ∧ σ = [some (.ref p), some (.int (r : Nat))] ∧ H1 = upd H p (.lst (nv L1)) ∧ Uf n L1 rank R ∧ R room r ∧ r < n ∧ ∀ x : Nat, L[x]? = some x → L1[x]? = some x, ⟨rank room, L, room, rfl, rfl, (upd_self hp).symm, u, rf _, hlt, fun _ h => h⟩, fun m σ H1 hW => ?_⟩
  obtain ⟨L1, r, rfl, rfl, rfl, u1, rr, hr1, ro⟩ := hW
  obtain ⟨y, hy⟩ := get_of u1.len hr1
  refine ⟨_, rfl, _, rfl, _, _, _, _, rfl, rfl, SqL.of upd_same, nv_at hy, _, rfl, rfl, _, rfl, ?_⟩
  by_cases e : y = r
  · subst e
    rw [dec_eq]
    exact iteF ⟨_, rfl, q L1 y u1 rr hy ro⟩
  · rw [dec_ne (by omega)]
    obtain ⟨z, hz⟩ := get_of u1.len (u1.at_ _ _ hy).1
    refine iteT ⟨fun σ' H' => ∃ (L2 : List Nat) (r2 : Nat), rank r2 < rank r ∧ σ' = [some (.ref p), some (.int (r2 : Nat))] ∧ H' = upd H p (.lst (nv L2)) ∧ Uf n L2 rank R ∧ R room r2 ∧ r2 < n ∧ ∀ x : Nat, L[x]? = some x → L2[x]? = some x, fun σ' H' ⟨L2, r2, h1, h2⟩ => ⟨_, h1, L2, r2, rfl, h2⟩, ?_⟩
    refine ⟨_, rfl, _, rfl, _, rfl, _, _, _, _, rfl, rfl, SqL.of upd_same, nv_at hy, _, _, _, _, rfl, rfl, SqL.of upd_same, nv_at hz, ?_⟩
    refine ⟨_, rfl, _, rfl, _, _, _, r, rfl, rfl, upd_same, ixN_nat (by rw [nv_len, u1.len]; exact hr1), ?_⟩
    rw [upd_upd, nv_set]
    have hz' : (L1.set r z)[r]? = some z := by
      rw [List.getElem?_set_self (by rw [u1.len]; exact hr1)]
    refine ⟨_, rfl, _, rfl, _, _, _, _, rfl, rfl, SqL.of upd_same, nv_at hz', ?_⟩
    have a1 := u1.at_ _ _ hy
    have a2 := u1.at_ _ _ hz
    refine ⟨L1.set r z, z, u1.less hy hz e, rfl, rfl, u1.half tr hy hz, tr _ _ _ rr (tr _ _ _ a1.2.1 a2.2.1), a2.1, fun x hx => ?_⟩
    have h1 := ro x hx
    have ne : r ≠ x := fun z => by
      subst z
      rw [h1] at hy
      exact e (Option.some.inj hy).symm
    rw [List.getElem?_set_ne ne]
    exact h1
theorem ok_first_ring (T : Bl mg) (D : Def K mg "first_ring" s_first_ring) (C_find_root : Cal P w K mg base "find_root" ["links", "room"] 1 spFind) : Cal P w K mg base "first_ring" ["doors"] 2 (spRing K) := by
  refine D.ok sc_first_ring (fun _ _ _ _ _ _ us hl => match us, hl with | [_], _ => rfl) (fun vs H Q E h => ?_) (fun f cdv A outer s H vs Q E hr h => ?_)
  · obtain ⟨a, ds, n, rfl, _⟩ := h
    rfl
  obtain ⟨a, ds, n, rfl, hH, tree, hn, q⟩ := h
  obtain ⟨rs, hrs, hlen, hds⟩ := id hH
  obtain ⟨side, s1, s2⟩ := tree.side
  have hdn := tree.len
  obtain ⟨f_find_root, fd_find_root, g_find_root, k_find_root, b_find_root, G_find_root⟩ := C_find_root
  refine ⟨_, (pss_cons (ps_set (i := 1) sc_first_ring.nd rfl (.inl rfl) (pe_listRg rfl (by rfl) T.list (prg_1 (by rfl) T.range (pe_op op_add (pe_callB call_len_seq (by rfl) T.len PySem.boot_len (pa_cons (pv 0) pa_nil)) pe_int))))
    (pss_cons (ps_for PassesOwn.never rfl (pi_enumT (by rfl) T.enumerate (pa_cons (pv 0) pa_nil)) (pg_tup (n := 2) rfl (pgs_cons (pg_name (i := 2) sc_first_ring.nd rfl (.inl rfl)) (pgs_cons (pg_tup (n := 2) rfl (pgs_cons (pg_name (i := 3) sc_first_ring.nd rfl (.inl rfl)) (pgs_cons (pg_name (i := 4) sc_first_ring.nd rfl (.inl rfl)) pgs_nil))) pgs_nil)))
    (pss_cons (ps_set (i := 5) sc_first_ring.nd rfl (.inl rfl) (pe_call G_find_root (hr.mono (by decide)) (by rfl) g_find_root k_find_root b_find_root .nil pass0 (pa_cons (pv 1) (pa_cons (pv 3) pa_nil))))
    (pss_cons (ps_set (i := 6) sc_first_ring.nd rfl (.inl rfl) (pe_call G_find_root (hr.mono (by decide)) (by rfl) g_find_root k_find_root b_find_root .nil pass0 (pa_cons (pv 1) (pa_cons (pv 4) pa_nil))))
    (pss_cons (ps_if (pt_cmpR op_eq (pv 5) (pv 6) (nomark _)) (pss_one (ps_ret (pv 2))) pss_nil)
    (pss_one (ps_asg (pv 6) (pg_sub (pv 1) (pv 5) set_list)))))))
    (pss_one (ps_ret pe_non)))), ?_⟩
  have e1 : (((rs.map V.ref).length : Nat) : Int) + 1 = ((n : Nat) : Int) := by
    rw [List.length_map, hlen]
    omega
  refine ⟨_, rfl, _, _, rfl, .inr hrs, _, _, rfl, rfl, _, rfl, .of_le (Int.le_refl _) (by omega) (by omega) (by omega), fun q0 nq => ?_⟩
  rw [e1, rgV_nat]
  refine ⟨_, rfl, a, _, rfl, (Same.upd nq).tup hrs, ?_⟩
  refine for_it (walk_enumT (K := K) (a := a) (xs := rs.map V.ref)) (fun k σ H1 => ∃ L rank y2 y3 y4 y5 y6, σ = [some (.ref a), some (.ref q0), y2, y3, y4, y5, y6] ∧ Same H H1 ∧ H1 q0 = some (.lst (nv L)) ∧ Uf n L rank (Rk side k))
    ⟨_, _, _, _, _, _, _, rfl, Same.upd nq, upd_same, Uf.range n _ Rk.rf⟩ (fun i σ H1 _ ⟨_, _, _, _, _, _, _, _, sm, _⟩ => sm.tup hrs) ?_ ?_
  · rintro k x σ H1 H2 hk ⟨L, rank, y2, y3, y4, y5, y6, rfl, sm, hq0, u⟩ ⟨t, x1, x2, rfl, nt, rfl, ex1, ex2⟩
    cases ex1
    have hk' : k < ds.length := by
      rw [List.length_map, hlen] at hk
      exact hk
    obtain ⟨e, he⟩ : ∃ e, ds[k]? = some e := get_of rfl hk'
    obtain ⟨r, hr0⟩ : ∃ r, rs[k]? = some r := get_of hlen hk'
    have ex2' : V.ref r = x2 := by
      have ex2 : (rs.map V.ref)[k]? = some x2 := ex2
      rw [List.getElem?_map, hr0] at ex2
      exact Option.some.inj ex2
    subst ex2'
    have sm2 : Same H1 (upd H1 t (.tup [.int (k : Nat), .ref r])) := Same.upd nt
    have hrd := sm2.tup (sm.tup (hds k r e hr0 he))
    have hq2 := sm2 _ _ hq0
    have elt := tree.lt e (List.mem_of_getElem? he)
    refine ⟨t, _, rfl, SqT.of upd_same, rfl, _, _, rfl, _, _, rfl, ⟨r, _, rfl, hrd, rfl, _, _, rfl, _, _, rfl, rfl, rfl, ?_⟩⟩
    refine ⟨_, rfl, _, rfl, q0, L, n, rank, Rk side k, e.1, rfl, hq2, u, Rk.tr, Rk.rf, elt.1, fun L1 ra u1 hra rta _ => ?_⟩
    refine ⟨_, rfl, _, rfl, q0, L1, n, rank, Rk side k, e.2, rfl, upd_same, u1, Rk.tr, Rk.rf, elt.2, fun L2 rb u2 hrb rtb ro2 => ?_⟩
    rw [upd_upd]
    refine ⟨_, rfl, _, rfl, rfl, _, rfl, ?_⟩
    have nab : ra ≠ rb := fun z => ring_no s1 he hra (z ▸ hrb)
    show if decide (V.int (ra : Int) = V.int (rb : Int)) = true then _ else _
    rw [dec_ne (by omega)]
    refine iteF ?_
    have rta2 := ro2 ra rta
    refine ⟨_, rfl, _, rfl, _, rfl, _, _, _, ra, rfl, rfl, upd_same, ixN_nat (by rw [nv_len]; exact get_lt rta2), ?_⟩
    rw [upd_upd, nv_set]
    exact ⟨_, _, _, _, _, _, _, rfl, (sm.trans sm2).at nq, upd_same, u2.union s1 s2 he hra hrb rta2 rtb⟩
  · rintro σ H1 ⟨L, rank, y2, y3, y4, y5, y6, rfl, sm, hq0, u⟩
    exact q H1 sm
end
end K5

namespace K5
open PySem PySem.Spec PyProof.Rows L2
def spNeedRoom (K : PySem.W.Frag) : Sp := fun vs H Q _ => ∃ (a : Addr) (ds : List (Nat × Nat)) (x : Int), vs = [.ref a, .int x] ∧ HouseAt K H a ds ∧ 0 ≤ x ∧ x < ds.length + 1 ∧ Q .non H
def spNeedDoor (K : PySem.W.Frag) : Sp := fun vs H Q _ => ∃ (a : Addr) (ds : List (Nat × Nat)) (x : Int), vs = [.ref a, .int x] ∧ HouseAt K H a ds ∧ 0 ≤ x ∧ x < ds.length ∧ Q .non H
section
variable {P : Program} {w : World} {K : PySem.W.Frag}
      {mg : Str → Option Value} {base : Heap}
theorem ok_check_house (T : Bl mg) (D : Def K mg "check_house" s_check_house) (C_is_door : Cal P w K mg base "is_door" ["value", "count"] 3 (spDoor K)) (C_first_ring : Cal P w K mg base "first_ring" ["doors"] 2 (spRing K)) :
    Cal P w K mg base "check_house" ["value"] 4 (spRing K) := by
  refine D.ok sc_check_house (fun _ _ _ _ _ _ us hl => match us, hl with | [_], _ => rfl) (fun vs H Q E h => ?_) (fun f cdv A outer s H vs Q E hr h => ?_)
  · obtain ⟨a, ds, n, rfl, _⟩ := h
    rfl
  obtain ⟨a, ds, n, rfl, hH, tree, hn, q⟩ := h
  obtain ⟨rs, hrs, hlen, hds⟩ := id hH
  have hdn := tree.len
  obtain ⟨f_is_door, fd_is_door, g_is_door, k_is_door, b_is_door, G_is_door⟩ := C_is_door
  obtain ⟨f_first_ring, fd_first_ring, g_first_ring, k_first_ring, b_first_ring, G_first_ring⟩ := C_first_ring
  refine ⟨_, (pss_cons (ps_if (pt_not (pt_val (pe_callB call_isi (by rfl) T.isinstance (by decide +kernel) (pa_cons (pv 0) (pa_cons (pe_bltn (v := .ty "tuple") (u := .type "tuple") (by rfl) T.tuple (by decide +kernel) rfl) pa_nil))))) (pss_one (ps_ret (pe_tup (pa_cons pe_str pa_nil)))) pss_nil)
    (pss_cons (ps_for PassesOwn.never rfl (pi_enumT (by rfl) T.enumerate (pa_cons (pv 0) pa_nil)) (pg_tup (n := 2) rfl (pgs_cons (pg_name (i := 1) sc_check_house.nd rfl (.inl rfl)) (pgs_cons (pg_name (i := 2) sc_check_house.nd rfl (.inl rfl)) pgs_nil)))
    (pss_one (ps_if (pt_not (pt_val (pe_call G_is_door (hr.mono (by decide)) (by rfl) g_is_door k_is_door b_is_door .nil pass0 (pa_cons (pv 2) (pa_cons (pe_op op_add (pe_callB call_len_seq (by rfl) T.len PySem.boot_len (pa_cons (pv 0) pa_nil)) pe_int) pa_nil))))) (pss_one (ps_ret (pe_tup (pa_cons pe_str (pa_cons (pv 1) pa_nil))))) pss_nil)))
    (pss_cons (ps_set (i := 3) sc_check_house.nd rfl (.inl rfl) (pe_call G_first_ring (hr.mono (by decide)) (by rfl) g_first_ring k_first_ring b_first_ring .nil pass0 (pa_cons (pv 0) pa_nil)))
    (pss_cons (ps_if (pt_cmpR op_notN (pv 3) pe_non (nomark _)) (pss_one (ps_ret (pe_tup (pa_cons pe_str (pa_cons (pv 3) pa_nil))))) pss_nil)
    (pss_one (ps_ret pe_non)))))), ?_⟩
  refine ⟨_, rfl, _, _, _, _, _, rfl, .ty _, ty_tup hrs, kit_ty (r := true) (by decide +kernel), _, rfl, iteF ?_⟩
  refine ⟨_, rfl, a, _, rfl, hrs, ?_⟩
  refine for_it (walk_enumT (K := K) (a := a) (xs := rs.map V.ref)) (fun k σ H1 => ∃ y1 y2 y3, σ = [some (.ref a), y1, y2, y3] ∧ Same H H1)
    ⟨_, _, _, rfl, Same.refl _⟩ (fun i σ H1 _ ⟨_, _, _, _, sm⟩ => sm.tup hrs) ?_ ?_
  · rintro k x σ H1 H2 hk ⟨y1, y2, y3, rfl, sm⟩ ⟨t, x1, x2, rfl, nt, rfl, ex1, ex2⟩
    cases ex1
    have hk' : k < ds.length := by
      rw [List.length_map, hlen] at hk
      exact hk
    obtain ⟨e, he⟩ : ∃ e, ds[k]? = some e := get_of rfl hk'
    obtain ⟨r, hr0⟩ : ∃ r, rs[k]? = some r := get_of hlen hk'
    have ex2' : V.ref r = x2 := by
      have ex2 : (rs.map V.ref)[k]? = some x2 := ex2
      rw [List.getElem?_map, hr0] at ex2
      exact Option.some.inj ex2
    subst ex2'
    have sm2 : Same H1 (upd H1 t (.tup [.int (k : Nat), .ref r])) := Same.upd nt
    have sm3 := sm.trans sm2
    have elt := tree.lt e (List.mem_of_getElem? he)
    obtain ⟨side, s1, s2⟩ := tree.side
    have ene : e.1 ≠ e.2 := fun z => s1 k e he (by rw [z])
    refine ⟨t, _, rfl, SqT.of upd_same, rfl, _, _, rfl, _, _, rfl, rfl, ?_⟩
    refine ⟨_, rfl, _, rfl, _, _, rfl, .inr (sm3.tup hrs), _, _, rfl, rfl, ?_⟩
    refine ⟨r, e.1, e.2, _, rfl, sm3.tup (hds k r e hr0 he), ?_, ?_, by omega, _, rfl, iteF ⟨_, _, _, rfl, sm3⟩⟩
    · rw [List.length_map, hlen]; omega
    · rw [List.length_map, hlen]; omega
  · rintro σ H1 ⟨y1, y2, y3, rfl, sm⟩
    refine ⟨_, rfl, a, ds, n, rfl, hH.same sm, tree, hn, fun H2 sm2 => ?_⟩
    refine ⟨_, rfl, rfl, _, rfl, iteF ?_⟩
    exact q H2 (sm.trans sm2)
theorem ok_need_house (T : Bl mg) (D : Def K mg "need_house" s_need_house) (C_check_house : Cal P w K mg base "check_house" ["value"] 4 (spRing K)) : Cal P w K mg base "need_house" ["house"] 5 (spRing K) := by
  refine D.ok sc_need_house (fun _ _ _ _ _ _ us hl => match us, hl with | [_], _ => rfl) (fun vs H Q E h => ?_) (fun f cdv A outer s H vs Q E hr h => ?_)
  · obtain ⟨a, ds, n, rfl, _⟩ := h
    rfl
  obtain ⟨a, ds, n, rfl, hH, tree, hn, q⟩ := h
  obtain ⟨f_check_house, fd_check_house, g_check_house, k_check_house, b_check_house, G_check_house⟩ := C_check_house
  refine ⟨_, (pss_cons (ps_set (i := 1) sc_need_house.nd rfl (.inl rfl) (pe_call G_check_house (hr.mono (by decide)) (by rfl) g_check_house k_check_house b_check_house .nil pass0 (pa_cons (pv 0) pa_nil)))
    (pss_one (ps_if (pt_cmpR op_notN (pv 1) pe_non (nomark _)) pss_never pss_nil))), ?_⟩
  refine ⟨_, rfl, a, ds, n, rfl, hH, tree, hn, fun H2 sm2 => ⟨_, rfl, rfl, _, rfl, iteF ?_⟩⟩
  exact q H2 sm2
theorem ok_need_room (T : Bl mg) (D : Def K mg "need_room" s_need_room) (C_is_index : Cal P w K mg base "is_index" ["value", "count"] 2 spIndex) : Cal P w K mg base "need_room" ["house", "room"] 3 (spNeedRoom K) := by
  refine D.ok sc_need_room (fun _ _ _ _ _ _ us hl => match us, hl with | [_, _], _ => rfl) (fun vs H Q E h => ?_) (fun f cdv A outer s H vs Q E hr h => ?_)
  · obtain ⟨a, ds, x, rfl, _⟩ := h
    rfl
  obtain ⟨a, ds, x, rfl, hH, h0, h1, q⟩ := h
  obtain ⟨rs, hrs, hlen, hds⟩ := id hH
  obtain ⟨f_is_index, fd_is_index, g_is_index, k_is_index, b_is_index, G_is_index⟩ := C_is_index
  refine ⟨_, (pss_one (ps_if (pt_not (pt_val (pe_call G_is_index (hr.mono (by decide)) (by rfl) g_is_index k_is_index b_is_index .nil pass0 (pa_cons (pv 1) (pa_cons (pe_op op_add (pe_callB call_len_seq (by rfl) T.len PySem.boot_len (pa_cons (pv 0) pa_nil)) pe_int) pa_nil))))) pss_never pss_nil)), ?_⟩
  refine ⟨_, rfl, _, rfl, _, _, rfl, .inr hrs, _, _, rfl, rfl, _, _, rfl, _, rfl, ?_⟩
  rw [decide_eq_true (by rw [List.length_map, hlen]; omega)]
  exact iteF q
end
end K5

namespace K5
open PySem PySem.Spec PyProof.Rows L2
/-- a list at q of pairs of numbers, each a tuple -/
def PairsAt (H : Hp) (q : Addr) (l : List (Nat × Nat)) : Prop :=
  ∃ ts : List Addr, H q = some (.lst (ts.map V.ref)) ∧ ts.length = l.length ∧ ∀ (i : Nat) (t : Addr) (e : Nat × Nat), ts[i]? = some t → l[i]? = some e → H t = some (.tup [.int e.1, .int e.2])
theorem PairsAt.same {H H' : Hp} {q : Addr} {l} (h : PairsAt H q l) (s : Same H H') : PairsAt H' q l := by
  obtain ⟨ts, h1, h2, h3⟩ := h
  exact ⟨ts, s _ _ h1, h2, fun i t e a b => s _ _ (h3 i t e a b)⟩
theorem ne_lt {H : Hp} {a b : Addr} {xs ys : List V} (h : H a = some (.lst xs)) (h' : H b = some (.tup ys)) : b ≠ a := ne_of h' h (by intro z; cases z)
/-- what stands aside of q keeps -/
theorem PairsAt.aside {H H' : Hp} {q p : Addr} {l} {xs : List V} (h : PairsAt H q l) (hp : H p = some (.lst xs)) (ne : q ≠ p) (s : But p H H') : PairsAt H' q l := by
  obtain ⟨ts, h1, h2, h3⟩ := h
  exact ⟨ts, s _ _ ne h1, h2, fun i t e a b => s _ _ (ne_lt hp (h3 i t e a b)) (h3 i t e a b)⟩
theorem PairsAt.push {H H' : Hp} {q t : Addr} {l : List (Nat × Nat)} {ts : List Addr} {d y : Nat} (h1 : H q = some (.lst (ts.map V.ref))) (h2 : ts.length = l.length) (h3 : ∀ (i : Nat) (t : Addr) (e : Nat × Nat), ts[i]? = some t → l[i]? = some e → H t = some (.tup [.int e.1, .int e.2]))
    (s : But q H H') (hq : H' q = some (.lst (ts.map V.ref ++ [.ref t]))) (ht : H' t = some (.tup [.int (d : Int), .int (y : Int)])) : PairsAt H' q (l ++ [(d, y)]) := by
  refine ⟨ts ++ [t], by rw [hq, List.map_append]; rfl, by simp [h2], fun i t' e a b => ?_⟩
  by_cases hi : i < ts.length
  · rw [List.getElem?_append_left hi] at a
    rw [List.getElem?_append_left (by omega)] at b
    have := h3 i t' e a b
    exact s _ _ (ne_lt h1 this) this
  · have hlt := get_lt a
    rw [List.length_append, List.length_singleton] at hlt
    have ei : i = ts.length := by omega
    subst ei
    rw [List.getElem?_append_right (Nat.le_refl _), Nat.sub_self] at a
    rw [h2, List.getElem?_append_right (Nat.le_refl _), Nat.sub_self] at b
    cases a
    cases b
    exact ht
/-- the rows of exits: a list each -/
def Rows (H : Hp) (ps : List Addr) (ex : Nat → List (Nat × Nat)) : Prop := ∀ (x : Nat) (q : Addr), ps[x]? = some q → PairsAt H q (ex x)
theorem Rows.same {H H' : Hp} {ps ex} (h : Rows H ps ex) (s : Same H H') : Rows H' ps ex := fun x q e => (h x q e).same s
theorem Rows.push {H : Hp} {ps : List Addr} {ex : Nat → List (Nat × Nat)} (R : Rows H ps ex) (nd : ps.Nodup) {x : Nat} {q t : Addr} (hq : ps[x]? = some q) (nt : H t = none) {d y : Nat} {xs : List V} (hx : H q = some (.lst xs)) :
    Rows (upd (upd H t (.tup [.int (d : Int), .int (y : Int)])) q (.lst (xs ++ [.ref t]))) ps (fun z => if z = x then ex z ++ [(d, y)] else ex z) := by
  have s1 : But q H (upd (upd H t (.tup [.int (d : Int), .int (y : Int)])) q (.lst (xs ++ [.ref t]))) := fun b o ne e => by
    rw [upd_ne ne, upd_ne (ne_of_none e nt)]
    exact e
  have ntq : t ≠ q := (ne_of_none hx nt).symm
  intro z q' hz
  by_cases e : z = x
  · subst e
    rw [hq] at hz
    cases hz
    obtain ⟨ts, h1, h2, h3⟩ := R z q hq
    rw [hx] at h1
    cases h1
    simp only [if_true]
    exact .push (ts := ts) hx h2 h3 s1 upd_same (by rw [upd_ne ntq, upd_same])
  · simp only [if_neg e]
    have ne : q' ≠ q := fun z' => by
      subst z'
      exact e (nd_ix nd hz hq)
    exact (R z q' hz).aside hx ne s1
theorem ex_mem {ds : List (Nat × Nat)} {ex : Nat → List (Nat × Nat)} {k : Nat} {e : Nat × Nat} (he : ds[k]? = some e) (ne : e.1 ≠ e.2) (mem : ∀ x d y, (d, y) ∈ ex x ↔ d < k ∧ Joins ds d x y) (x d y : Nat) :
    (d, y) ∈ (if x = e.2 then (if x = e.1 then ex x ++ [(k, e.2)] else ex x) ++ [(k, e.1)] else if x = e.1 then ex x ++ [(k, e.2)] else ex x) ↔ d < k + 1 ∧ Joins ds d x y := by
  have J : Joins ds k x y ↔ (x = e.1 ∧ y = e.2) ∨ (x = e.2 ∧ y = e.1) := by
    unfold Joins
    rw [he]
    constructor
    · rintro (h | h)
      · have h := Option.some.inj h
        exact .inl ⟨by rw [h], by rw [h]⟩
      · have h := Option.some.inj h
        exact .inr ⟨by rw [h], by rw [h]⟩
    · rintro (⟨rfl, rfl⟩ | ⟨rfl, rfl⟩)
      · exact .inl rfl
      · exact .inr rfl
  have step : (d < k + 1 ∧ Joins ds d x y) ↔ (d < k ∧ Joins ds d x y) ∨ (d = k ∧ ((x = e.1 ∧ y = e.2) ∨ (x = e.2 ∧ y = e.1))) := by
    constructor
    · rintro ⟨h1, h2⟩
      by_cases q : d = k
      · subst q
        exact .inr ⟨rfl, J.mp h2⟩
      · exact .inl ⟨by omega, h2⟩
    · rintro (⟨h1, h2⟩ | ⟨rfl, h2⟩)
      · exact ⟨by omega, h2⟩
      · exact ⟨by omega, J.mpr h2⟩
  rw [step, ← mem x d y]
  by_cases h2 : x = e.2
  · have h1 : ¬ x = e.1 := fun z => ne (z.symm.trans h2)
    rw [if_pos h2, if_neg h1, List.mem_append, List.mem_singleton, Prod.mk.injEq]
    simp [h1, h2, ne.symm]
  · rw [if_neg h2]
    by_cases h1 : x = e.1
    · rw [if_pos h1, List.mem_append, List.mem_singleton, Prod.mk.injEq]
      simp [h1, ne]
    · rw [if_neg h1]
      simp [h1, h2]
theorem small3k {n : Nat} (h : n ≤ 3000) : n < sizeLine := Nat.lt_of_le_of_lt h (by decide)
theorem lcYes {A B : Hp → Prop} {σ : L2.St} {H : Hp} (h : A H) : tYes σ H (fun b H3 => if b = true then A H3 else B H3) := by
  show (if true = true then A H else B H)
  rw [if_pos rfl]
  exact h
def spExits (K : PySem.W.Frag) : Sp := fun vs H Q _ => ∃ (a : Addr) (ds : List (Nat × Nat)) (n : Nat), vs = [.ref a] ∧ HouseAt K H a ds ∧ Tree n ds ∧ n ≤ 1000 ∧
  ∀ (H' : Hp) (p : Addr) (ps : List Addr) (ex : Nat → List (Nat × Nat)), Same H H' → H p = none → H' p = some (.lst (ps.map V.ref)) → ps.length = n → Rows H' ps ex → (∀ x d y, (d, y) ∈ ex x ↔ Joins ds d x y) → Q (.ref p) H'
section
variable {P : Program} {w : World} {K : PySem.W.Frag}
      {mg : Str → Option Value} {base : Heap}
theorem ok_exits_of (T : Bl mg) (D : Def K mg "exits_of" s_exits_of) : Cal P w K mg base "exits_of" ["house"] 1 (spExits K) := by
  refine D.ok sc_exits_of (fun _ _ _ _ _ _ us hl => match us, hl with | [_], _ => rfl) (fun vs H Q E h => ?_) (fun f cdv A outer s H vs Q E hr h => ?_)
  · obtain ⟨a, ds, n, rfl, _⟩ := h
    rfl
  obtain ⟨a, ds, n, rfl, hH, tree, hn, q⟩ := h
  obtain ⟨rs, hrs, hlen, hds⟩ := id hH
  have hdn := tree.len
  refine ⟨_, (pss_cons (ps_setLc (i := 1) (own := [("room", 2)]) (g := gName 2)  rfl sc_exits_of.nd rfl rfl (sw_true rfl rfl rfl (by decide +kernel)) (pi_range1 rfl T.range (pa_cons (pe_op op_add (pe_callB call_len_seq (by rfl) T.len PySem.boot_len (pa_cons (pv 0) pa_nil)) pe_int) pa_nil)) (blkOk_by (N := N_exits_of) (sc := defScope s_exits_of) (own := [("room", 2)]) (by decide +kernel)) (fun _ _ _ _ _ => (pg_name (i := 2) sc_exits_of.nd rfl (.inl rfl) (.inr rfl))) (fun _ _ _ _ _ => pts_nil) (fun _ _ _ _ _ => (pe_lst pa_nil)))
    (pss_cons (ps_for PassesOwn.never rfl (pi_enumT (by rfl) T.enumerate (pa_cons (pv 0) pa_nil)) (pg_tup (n := 2) rfl (pgs_cons (pg_name (i := 3) sc_exits_of.nd rfl (.inl rfl)) (pgs_cons (pg_tup (n := 2) rfl (pgs_cons (pg_name (i := 4) sc_exits_of.nd rfl (.inl rfl)) (pgs_cons (pg_name (i := 5) sc_exits_of.nd rfl (.inl rfl)) pgs_nil))) pgs_nil)))
    (pss_cons (ps_expr (pe_bm PySem.F.plainAttrs_list PySem.F.slot_list_append PySem.F.type_list_append mt_append (pe_ix ix_list (pv 1) (pv 4) (fun _ _ => rfl)) (pa_cons (pe_tup (pa_cons (pv 3) (pa_cons (pv 5) pa_nil))) pa_nil)))
    (pss_one (ps_expr (pe_bm PySem.F.plainAttrs_list PySem.F.slot_list_append PySem.F.type_list_append mt_append (pe_ix ix_list (pv 1) (pv 5) (fun _ _ => rfl)) (pa_cons (pe_tup (pa_cons (pv 3) (pa_cons (pv 4) pa_nil))) pa_nil))))))
    (pss_one (ps_ret (pv 1))))), ?_⟩
  have en : (((rs.map V.ref).length : Nat) : Int) + 1 = ((n : Nat) : Int) := by
    rw [List.length_map, hlen]
    omega
  refine ⟨_, rfl, _, _, rfl, .inr hrs, _, _, rfl, rfl, (n : Int), congrArg (fun z => [V.int z]) en, by omega, by omega, fun p np => ?_⟩
  refine lc_range (lo := 0) (n := n) (fun i H1 => ∃ ps : List Addr, Same H H1 ∧ H1 p = some (.lst (ps.map V.ref)) ∧ ps.length = i ∧ ps.Nodup ∧ ∀ x ∈ ps, H x = none ∧ H1 x = some (.lst [])) ?_ ?_ ?_
  · exact ⟨[], Same.upd np, upd_same, rfl, List.nodup_nil, fun _ h => nomatch h⟩
  · rintro i H1 hi ⟨ps, sm, hp, hl, nd, hx⟩
    refine ⟨rfl, lcYes ?_⟩
    refine ⟨Nat.zero_le _, fun x nx => ?_⟩
    have npx : p ≠ x := ne_of_none hp nx
    have xps : x ∉ ps := fun m => by
      rw [(hx x m).2] at nx
      cases nx
    have pps : p ∉ ps := fun m => by
      have h1 := (hx p m).2
      rw [hp] at h1
      cases ps with
      | nil => cases m
      | cons a r => cases h1
    refine ⟨ps.map V.ref, by rw [upd_ne npx]; exact hp, ?_, ps ++ [x], (sm.trans (Same.upd nx)).at np, ?_, by simp [hl], ?_, fun z m => ?_⟩
    · rw [List.length_map]
      exact small1000 (by omega)
    · rw [upd_same, List.map_append]
      rfl
    · exact nd_snoc nd xps
    · rcases List.mem_append.mp m with m | m
      · have ne1 : z ≠ p := fun e => pps (e ▸ m)
        have ne2 : z ≠ x := fun e => xps (e ▸ m)
        rw [upd_ne ne1, upd_ne ne2]
        exact hx z m
      · rw [List.mem_singleton.mp m, upd_ne npx.symm, upd_same]
        exact ⟨sm.free nx, rfl⟩
  · rintro H1 ⟨ps, sm, hp, hl, nd, hx⟩
    have pps : p ∉ ps := fun m => by
      have h1 := (hx p m).2
      rw [hp] at h1
      cases ps with
      | nil => cases m
      | cons a r => cases h1
    refine ⟨_, rfl, a, _, rfl, sm.tup hrs, ?_⟩
    refine for_it (walk_enumT (K := K) (a := a) (xs := rs.map V.ref)) (fun k σ H2 => ∃ ex y2 y3 y4 y5, σ = [some (.ref a), some (.ref p), y2, y3, y4, y5] ∧ Same H H2 ∧ H2 p = some (.lst (ps.map V.ref)) ∧ Rows H2 ps ex ∧
        (∀ x d y, (d, y) ∈ ex x ↔ d < k ∧ Joins ds d x y) ∧ ∀ x, (ex x).length ≤ 2 * k)
      ⟨fun _ => [], _, _, _, _, rfl, sm, hp, fun x q e => ⟨[], (hx q (List.mem_of_getElem? e)).2, rfl, fun i t e h => by simp at h⟩, fun x d y => by simp, fun x => Nat.zero_le _⟩
      (fun i σ H1 _ ⟨_, _, _, _, _, _, sm, _⟩ => sm.tup hrs) ?_ ?_
    · rintro k x σ H2 H3 hk ⟨ex, y2, y3, y4, y5, rfl, sm2, hp2, ro, mem, le⟩ ⟨t, x1, x2, rfl, nt, rfl, ex1, ex2⟩
      cases ex1
      have hk' : k < ds.length := by
        rw [List.length_map, hlen] at hk
        exact hk
      obtain ⟨e, he⟩ : ∃ e, ds[k]? = some e := get_of rfl hk'
      obtain ⟨r, hr0⟩ : ∃ r, rs[k]? = some r := get_of hlen hk'
      have ex2' : V.ref r = x2 := by
        have ex2 : (rs.map V.ref)[k]? = some x2 := ex2
        rw [List.getElem?_map, hr0] at ex2
        exact Option.some.inj ex2
      subst ex2'
      have elt := tree.lt e (List.mem_of_getElem? he)
      obtain ⟨side, s1, s2⟩ := tree.side
      have ene : e.1 ≠ e.2 := fun z => s1 k e he (by rw [z])
      have smt : Same H2 (upd H2 t (.tup [.int (k : Nat), .ref r])) := Same.upd nt
      have sm3 := sm2.trans smt
      have hp3 := smt _ _ hp2
      have ro3 := ro.same smt
      refine ⟨t, _, rfl, SqT.of upd_same, rfl, _, _, rfl, _, _, rfl, ⟨r, _, rfl, sm3.tup (hds k r e hr0 he), rfl, _, _, rfl, _, _, rfl, rfl, rfl, ?_⟩⟩
      generalize upd H2 t (.tup [.int (k : Nat), .ref r]) = H4 at sm3 hp3 ro3 smt
      obtain ⟨q1, hq1⟩ := get_of hl elt.1
      obtain ⟨q2, hq2⟩ := get_of hl elt.2
      obtain ⟨ts1, g1, g2, g3⟩ := ro3 _ _ hq1
      refine ⟨_, rfl, _, rfl, _, _, _, V.ref q1, rfl, rfl, SqL.of hp3, atI_nat (v := V.ref q1) (by rw [List.getElem?_map, hq1]; rfl), .inl ⟨rfl, _, SqL.of g1⟩, _, rfl, _, rfl, by show 2 ≤ sizeLine; decide, fun t1 nt1 => ?_⟩
      refine ⟨q1, _, _, rfl, rfl, by rw [upd_ne (ne_of_none g1 nt1)]; exact g1, by rw [List.length_map, g2]; exact small3k (by have := le e.1; omega), ?_⟩
      have ro4 := ro3.push nd hq1 nt1 (d := k) (y := e.2) g1
      have nq1 : H q1 = none := (hx q1 (List.mem_of_getElem? hq1)).1
      have nq2 : H q2 = none := (hx q2 (List.mem_of_getElem? hq2)).1
      have pq1 : p ≠ q1 := fun z => pps (z ▸ List.mem_of_getElem? hq1)
      have pq2 : p ≠ q2 := fun z => pps (z ▸ List.mem_of_getElem? hq2)
      have sm4 : Same H (upd (upd H4 t1 (.tup [.int (k : Nat), .int (e.2 : Nat)])) q1 (.lst (ts1.map V.ref ++ [V.ref t1]))) := (sm3.trans (Same.upd nt1)).at nq1
      have hp4 : (upd (upd H4 t1 (.tup [.int (k : Nat), .int (e.2 : Nat)])) q1 (.lst (ts1.map V.ref ++ [V.ref t1]))) p = some (.lst (ps.map V.ref)) := by
        rw [upd_ne pq1, upd_ne (ne_of_none hp3 nt1)]
        exact hp3
      generalize (upd (upd H4 t1 (.tup [.int (k : Nat), .int (e.2 : Nat)])) q1 (.lst (ts1.map V.ref ++ [V.ref t1]))) = H5 at ro4 sm4 hp4
      obtain ⟨ts2, f1, f2, f3⟩ := ro4 _ _ hq2
      have f2' : ts2.length = (ex e.2).length := by
        rw [f2]
        simp only [if_neg ene.symm]
      refine ⟨_, rfl, _, rfl, _, _, _, V.ref q2, rfl, rfl, SqL.of hp4, atI_nat (v := V.ref q2) (by rw [List.getElem?_map, hq2]; rfl), .inl ⟨rfl, _, SqL.of f1⟩, _, rfl, _, rfl, by show 2 ≤ sizeLine; decide, fun t2 nt2 => ?_⟩
      refine ⟨q2, _, _, rfl, rfl, by rw [upd_ne (ne_of_none f1 nt2)]; exact f1, by rw [List.length_map, f2']; exact small3k (by have := le e.2; omega), ?_⟩
      refine ⟨_, _, _, _, _, rfl, (sm4.trans (Same.upd nt2)).at nq2, by rw [upd_ne pq2, upd_ne (ne_of_none hp4 nt2)]; exact hp4, ro4.push nd hq2 nt2 (d := k) (y := e.1) f1, fun x d y => ?_, fun x => ?_⟩
      · exact ex_mem he ene mem x d y
      · have := le x
        by_cases e2 : x = e.2
        · simp only [e2, if_true, if_neg ene.symm]
          have := le e.2
          simp; omega
        · by_cases e1 : x = e.1
          · simp only [e1, if_true, if_neg ene]
            have := le e.1
            simp; omega
          · simp only [if_neg e1, if_neg e2]
            omega
    · rintro σ H2 ⟨ex, y2, y3, y4, y5, rfl, sm2, hp2, ro, mem, le⟩
      refine ⟨_, rfl, q H2 p ps ex sm2 np hp2 hl ro fun x d y => ?_⟩
      rw [mem x d y]
      refine ⟨fun h => h.2, fun h => ⟨?_, h⟩⟩
      rw [List.length_map, hlen]
      rcases h with h | h
      · exact get_lt h
      · exact get_lt h
end
end K5

namespace K5
open PySem PySem.Spec PyProof.Rows L2
/-- a dict whose keys are numbers: key by key -/
def DicR {β : Type} (VR : V → β → Prop) (kvs : List (Key × V)) (ks : List (Nat × β)) : Prop := Paired (fun (kv : Key × V) (k : Nat × β) => kv.1 = Sum.inl (k.1 : Int) ∧ VR kv.2 k.2) kvs ks
section
variable {β : Type} {VR VR' : V → β → Prop}
theorem DicR.mono {kvs ks} (h : DicR VR kvs ks) (f : ∀ v o, VR v o → VR' v o) : DicR VR' kvs ks := Paired.mapP h fun a b x => ⟨x.1, f _ _ x.2⟩
theorem DicR.len {kvs ks} (h : DicR VR kvs ks) : kvs.length = ks.length := Paired.length h
theorem DicR.no : ∀ {kvs : List (Key × V)} {ks : List (Nat × β)} {x : Nat}, DicR VR kvs ks → x ∉ ks.map Prod.fst → valV kvs (Sum.inl (x : Int)) = none
  | _, _, x, .nil, _ => rfl
  | kv :: _, k :: _, x, .cons h t, hx => by
    have hne : ¬ kv.1 = Sum.inl (x : Int) := fun z => by
      rw [h.1] at z
      have z := Sum.inl.inj z
      exact hx (List.mem_map.mpr ⟨k, List.mem_cons_self, by omega⟩)
    rw [valV_neg hne]
    exact DicR.no t fun m => hx (by rw [List.map_cons]; exact List.mem_cons_of_mem _ m)
theorem DicR.val : ∀ {kvs : List (Key × V)} {ks : List (Nat × β)} {x : Nat}, DicR VR kvs ks → x ∈ ks.map Prod.fst → ∃ v o, valV kvs (Sum.inl (x : Int)) = some v ∧ (x, o) ∈ ks ∧ VR v o
  | _, _, x, .nil, hx => by cases hx
  | kv :: _, k :: _, x, .cons h t, hx => by
    by_cases e : k.1 = x
    · refine ⟨kv.2, k.2, valV_pos (by rw [h.1, e]), ?_, h.2⟩
      rw [← e]
      exact List.mem_cons_self
    · have hne : ¬ kv.1 = Sum.inl (x : Int) := fun z => by
        rw [h.1] at z
        have z := Sum.inl.inj z
        omega
      rw [List.map_cons] at hx
      obtain ⟨v, o, a, b, c⟩ := DicR.val t ((List.mem_cons.mp hx).resolve_left fun q => e q.symm)
      exact ⟨v, o, by rw [valV_neg hne]; exact a, List.mem_cons_of_mem _ b, c⟩
theorem DicR.snoc : ∀ {kvs : List (Key × V)} {ks : List (Nat × β)} {x : Nat} {v : V} {o : β}, DicR VR kvs ks → VR v o → DicR VR (kvs ++ [(Sum.inl (x : Int), v)]) (ks ++ [(x, o)])
  | _, _, x, v, o, .nil, r => .cons ⟨rfl, r⟩ .nil
  | _, _, x, v, o, .cons h t, r => .cons h (DicR.snoc t r)
theorem DicR.add {kvs : List (Key × V)} {ks : List (Nat × β)} {x : Nat} {v : V} {o : β} (h : DicR VR kvs ks) (hx : x ∉ ks.map Prod.fst) (r : VR v o) : DicR VR (putK kvs (Sum.inl (x : Int)) v) (ks ++ [(x, o)]) := by
  rw [putK_new v (h.no hx)]
  exact h.snoc r
end
/-- a way's step: None, or a tuple (door, next room) -/
def WayR (H : Hp) (v : V) (o : Option (Nat × Nat)) : Prop := match o with
  | none => v = .non
  | some e => ∃ t, v = .ref t ∧ H t = some (.tup [.int (e.1 : Int), .int (e.2 : Int)])
theorem WayR.keep {H H' : Hp} {v o} (h : WayR H v o) (s : ∀ t xs, H t = some (.tup xs) → H' t = some (.tup xs)) : WayR H' v o := by
  cases o with
  | none => exact h
  | some e =>
    obtain ⟨t, a, b⟩ := h
    exact ⟨t, a, s _ _ b⟩
theorem snoc_nil {α : Type} (l : List α) : l = [] ∨ ∃ r x, l = r ++ [x] := by
  by_cases h : l = []
  · exact .inl h
  · exact .inr ⟨l.dropLast, l.getLast h, (List.dropLast_concat_getLast h).symm⟩
theorem mem_ofNat {d : Nat} {l : List Nat} : ((d : Int) ∈ l.map fun x : Nat => (x : Int)) ↔ d ∈ l := by
  constructor
  · intro h
    obtain ⟨x, hx, e⟩ := List.mem_map.mp h
    have : x = d := by omega
    exact this ▸ hx
  · intro h
    exact List.mem_map.mpr ⟨d, h, rfl⟩
theorem nv_int (l : List Nat) : nv l = (l.map fun x : Nat => (x : Int)).map V.int := by
  unfold nv
  rw [List.map_map]
  rfl
theorem nv_snoc (l : List Nat) (x : Nat) : nv (l ++ [x]) = nv l ++ [.int (x : Int)] := by
  unfold nv
  rw [List.map_append]
  rfl
/-- the dict and the list that the search writes; what stood ahead of them stands -/
structure WS (Hb H : Hp) (pw pq : Addr) (ks : List (Nat × Option (Nat × Nat))) (ws : List Nat) : Prop where
  sm : Same Hb H
  w : ∃ kvs, H pw = some (.dK kvs) ∧ DicR (WayR H) kvs ks
  q : H pq = some (.lst (nv ws))
  le : ws.length ≤ ks.length
theorem WS.ne {Hb H pw pq ks ws} (S : WS Hb H pw pq ks ws) : pw ≠ pq := by
  obtain ⟨kvs, h, _⟩ := S.w
  exact ne_of h S.q (by intro z; cases z)
theorem WS.setq {Hb H pw pq ks ws ws'} (S : WS Hb H pw pq ks ws) (nq : Hb pq = none) (hl : ws'.length ≤ ks.length) : WS Hb (upd H pq (.lst (nv ws'))) pw pq ks ws' := by
  obtain ⟨kvs, h, r⟩ := S.w
  refine ⟨S.sm.at nq, ⟨kvs, by rw [upd_ne S.ne]; exact h, r.mono fun v o x => x.keep fun t xs e => ?_⟩, upd_same, hl⟩
  rw [upd_ne (ne_lt S.q e)]
  exact e
theorem WS.add {Hb H pw pq ks ws} (S : WS Hb H pw pq ks ws) (nw : Hb pw = none) {t : Addr} (nt : H t = none) {kvs} (hk : H pw = some (.dK kvs)) (r : DicR (WayR H) kvs ks) {y d here : Nat} (ny : y ∉ ks.map Prod.fst) :
    WS Hb (upd (upd H t (.tup [.int (d : Int), .int (here : Int)])) pw (.dK (putK kvs (Sum.inl (y : Int)) (.ref t)))) pw pq (ks ++ [(y, some (d, here))]) ws := by
  have ntw : t ≠ pw := (ne_of_none hk nt).symm
  refine ⟨(S.sm.trans (Same.upd nt)).at nw, ⟨_, upd_same, (r.mono fun v o x => x.keep fun t' xs e => ?_).add ny ⟨t, rfl, by rw [upd_ne ntw, upd_same]⟩⟩, ?_, by rw [List.length_append]; exact Nat.le_trans S.le (Nat.le_add_right _ _)⟩
  · rw [upd_ne (ne_of e hk (by intro z; cases z)), upd_ne (ne_of_none e nt)]
    exact e
  · rw [upd_ne S.ne.symm, upd_ne (ne_of_none S.q nt)]
    exact S.q
def spWays (K : PySem.W.Frag) : Sp := fun vs H Q _ => ∃ (a sh : Addr) (ds : List (Nat × Nat)) (n room : Nat) (shut : List Nat), vs = [.ref a, .int (room : Int), .ref sh] ∧ HouseAt K H a ds ∧ Tree n ds ∧ n ≤ 1000 ∧ room < n ∧ SqL K H sh (nv shut) ∧ shut.length ≤ 1000 ∧
  ∀ (H' : Hp) (p : Addr) (kvs : List (Key × V)) (ks : List (Nat × Option (Nat × Nat))), Same H H' → H p = none → H' p = some (.dK kvs) → DicR (WayR H') kvs ks → Dfs n ds shut (ks.map Prod.fst) [] → Ptr ds shut room ks → room ∈ ks.map Prod.fst → Q (.ref p) H'
section
variable {P : Program} {w : World} {K : PySem.W.Frag}
      {mg : Str → Option Value} {base : Heap}
theorem ok_ways_from (T : Bl mg) (D : Def K mg "ways_from" s_ways_from) (C_exits_of : Cal P w K mg base "exits_of" ["house"] 1 (spExits K)) : Cal P w K mg base "ways_from" ["house", "room", "shut"] 2 (spWays K) := by
  refine D.ok sc_ways_from (fun _ _ _ _ _ _ us hl => match us, hl with | [_, _, _], _ => rfl) (fun vs H Q E h => ?_) (fun f cdv A outer s H vs Q E hr h => ?_)
  · obtain ⟨a, sh, ds, n, room, shut, rfl, _⟩ := h
    rfl
  obtain ⟨a, sh, ds, n, room, shut, rfl, hH, tree, hn, hroom, hsh, hshl, q⟩ := h
  obtain ⟨f_exits_of, fd_exits_of, g_exits_of, k_exits_of, b_exits_of, G_exits_of⟩ := C_exits_of
  refine ⟨_, (pss_cons (ps_set (i := 3) sc_ways_from.nd rfl (.inl rfl) (pe_call G_exits_of (hr.mono (by decide)) (by rfl) g_exits_of k_exits_of b_exits_of .nil pass0 (pa_cons (pv 0) pa_nil)))
    (pss_cons (ps_set (i := 4) sc_ways_from.nd rfl (.inl rfl) (pe_callTy (cr_setI rfl) (by rfl) T.set (by decide +kernel) (pa_cons (pv 2) pa_nil)))
    (pss_cons (ps_set (i := 5) sc_ways_from.nd rfl (.inl rfl) (pe_disp (pps_cons (pv 1) pe_non pps_nil) (by rfl) (by rfl) (fun z => by cases z) (by decide)))
    (pss_cons (ps_set (i := 6) sc_ways_from.nd rfl (.inl rfl) (pe_lst (pa_cons (pv 1) pa_nil)))
    (pss_cons (ps_while PassesOwn.never (pt_truth (pv 6) (by intro _; rfl)) (pss_cons (ps_set (i := 7) sc_ways_from.nd rfl (.inl rfl) (pe_bm0 PySem.F.plainAttrs_list PySem.F.slot_list_pop PySem.F.type_list_pop mt_pop (pv 6)))
    (pss_one (ps_for PassesOwn.never rfl (pi_list (pe_ix ix_list (pv 3) (pv 7) (fun _ _ => rfl))) (pg_tup (n := 2) rfl (pgs_cons (pg_name (i := 8) sc_ways_from.nd rfl (.inl rfl)) (pgs_cons (pg_name (i := 9) sc_ways_from.nd rfl (.inl rfl)) pgs_nil)))
    (pss_one (ps_if (PW.pt (pw_and (pt_cmpR op_notset (pv 8) (pv 4) (by rfl)) (pw_and1 (pt_cmp (pc_dnotin (hu_of hr) (pv 9) (pv 5)))))) (pss_cons (ps_dput (hu_of hr) (pv 5) (pv 9) (pe_tup (pa_cons (pv 8) (pa_cons (pv 7) pa_nil))) rfl)
    (pss_one (ps_expr (pe_bm PySem.F.plainAttrs_list PySem.F.slot_list_append PySem.F.type_list_append mt_append (pv 6) (pa_cons (pv 9) pa_nil))))) pss_nil))))))
    (pss_one (ps_ret (pv 5)))))))), ?_⟩
  refine ⟨_, rfl, a, ds, n, rfl, hH, tree, hn, fun H1 px ps ex sm1 npx hpx hpl ro mem => ?_⟩
  refine ⟨_, rfl, sh, shut.map (fun x : Nat => (x : Int)), rfl, by rw [← nv_int]; exact sm1.seq hsh, ?_, fun sa S sn nsa hS => ?_⟩
  · rw [List.length_map]
    exact Nat.lt_of_le_of_lt (Nat.succ_le_succ hshl) (by decide)
  have sm2 : Same H1 (upd H1 sa (.set S sn)) := Same.upd nsa
  have hsa : (upd H1 sa (.set S sn)) sa = some (.set S sn) := upd_same
  have hpx2 := sm2 _ _ hpx
  have ro2 := ro.same sm2
  have sm := sm1.trans sm2
  generalize upd H1 sa (.set S sn) = H2 at sm2 hsa hpx2 ro2 sm
  intro pw npw
  refine ⟨_, rfl, upd_same, [(Sum.inl (room : Int), .non)], rfl, (by show 1 ≤ 15; decide), ?_⟩
  rw [upd_upd]
  refine ⟨_, rfl, by show 1 ≤ sizeLine; decide, fun pq npq => ?_⟩
  have npw2 : pw ≠ pq := fun z => by
    subst z
    rw [upd_same] at npq
    cases npq
  have npq2 : H2 pq = none := by
    rw [upd_ne npw2.symm] at npq
    exact npq
  have S0 : WS H2 (upd (upd H2 pw (.dK (mergeK [] [(Sum.inl (room : Int), .non)]))) pq (.lst [.int (room : Int)])) pw pq [(room, none)] [room] :=
    ⟨(Same.upd npw).at npq2, ⟨[(Sum.inl (room : Int), .non)], by rw [upd_ne npw2, upd_same]; rfl, .cons ⟨rfl, rfl⟩ .nil⟩, by rw [upd_same]; rfl, Nat.le_refl _⟩
  generalize (upd (upd H2 pw (.dK (mergeK [] [(Sum.inl (room : Int), .non)]))) pq (.lst [.int (room : Int)])) = H3 at S0
  refine ⟨fun m σ H4 => ∃ ks ws y7 y8 y9, m = 2 * (n - ks.length) + ws.length ∧ σ = [some (.ref a), some (.int (room : Int)), some (.ref sh), some (.ref px), some (.ref sa), some (.ref pw), some (.ref pq), y7, y8, y9] ∧
      WS H2 H4 pw pq ks ws ∧ Dfs n ds shut (ks.map Prod.fst) ws ∧ Ptr ds shut room ks ∧ room ∈ ks.map Prod.fst,
    ⟨_, [(room, none)], [room], _, _, _, rfl, rfl, S0, Dfs.start hroom, Ptr.start, List.mem_singleton.mpr rfl⟩, fun m σ H4 hW => ?_⟩
  obtain ⟨ks, ws, y7, y8, y9, rfl, rfl, S, df, pt, hrm⟩ := hW
  refine ⟨_, rfl, _, .inl ⟨nv ws, SqL.of S.q, rfl⟩, ?_⟩
  rcases snoc_nil ws with rfl | ⟨wr, here, rfl⟩
  · refine iteF ⟨_, rfl, ?_⟩
    obtain ⟨kvs, hk, r⟩ := S.w
    exact q H4 pw kvs ks (sm.trans S.sm) (sm.free npw) hk r df pt hrm
  · have e1 : (!(nv (wr ++ [here])).isEmpty) = true := by
      rw [nv_snoc]
      cases nv wr <;> rfl
    rw [e1]
    have hhere : here < n := df.lt _ (df.sub _ (List.mem_append.mpr (.inr (List.mem_singleton.mpr rfl))))
    have dfi := df.pop
    have hlast : (nv (wr ++ [here]))[(nv (wr ++ [here])).length - 1]? = some (.int (here : Int)) := by
      rw [nv_snoc, List.length_append, List.length_singleton, Nat.add_sub_cancel, List.getElem?_append_right (Nat.le_refl _), Nat.sub_self]
      rfl
    refine iteT ⟨fun σ' H' => ∃ ks' ws' y7 y8 y9, 2 * (n - ks'.length) + ws'.length < 2 * (n - ks.length) + (wr ++ [here]).length ∧ σ' = [some (.ref a), some (.int (room : Int)), some (.ref sh), some (.ref px), some (.ref sa), some (.ref pw), some (.ref pq), y7, y8, y9] ∧
      WS H2 H' pw pq ks' ws' ∧ Dfs n ds shut (ks'.map Prod.fst) ws' ∧ Ptr ds shut room ks' ∧ room ∈ ks'.map Prod.fst, fun σ' H' ⟨ks', ws', z7, z8, z9, h1, h2⟩ => ⟨_, h1, ks', ws', z7, z8, z9, rfl, h2⟩, ?_⟩
    refine ⟨_, rfl, .inl ⟨rfl, _, SqL.of S.q⟩, pq, _, _, rfl, rfl, S.q, hlast, ?_⟩
    rw [nv_snoc, List.dropLast_concat]
    have S1 := S.setq (ws' := wr) npq2 (by have := S.le; simp at this; omega)
    generalize upd H4 pq (.lst (nv wr)) = H5 at S1
    obtain ⟨qx, hqx⟩ := get_of hpl hhere
    obtain ⟨ts, g1, g2, g3⟩ := ro2 _ _ hqx
    refine ⟨_, rfl, _, rfl, px, _, _, V.ref qx, rfl, rfl, SqL.of (S1.sm _ _ hpx2), atI_nat (v := V.ref qx) (by rw [List.getElem?_map, hqx]; rfl), qx, rfl, ⟨_, SqL.of (S1.sm _ _ g1)⟩, ?_⟩
    refine for_it (walk_list (K := K) (a := qx) (xs := ts.map V.ref)) (fun j σ H6 => ∃ ks' ws' y8 y9, 2 * (n - ks'.length) + ws'.length < 2 * (n - ks.length) + (wr ++ [here]).length ∧ σ = [some (.ref a), some (.int (room : Int)), some (.ref sh), some (.ref px), some (.ref sa), some (.ref pw), some (.ref pq), some (.int (here : Int)), y8, y9] ∧
      WS H2 H6 pw pq ks' ws' ∧ DfsIn n ds shut (ks'.map Prod.fst) ws' here ((ex here).take j) ∧ Ptr ds shut room ks' ∧ room ∈ ks'.map Prod.fst)
      ⟨ks, wr, _, _, by rw [List.length_append, List.length_singleton]; omega, rfl, S1, dfi, pt, hrm⟩ (fun i σ H1 _ ⟨_, _, _, _, _, _, S, _⟩ => SqL.of (S.sm _ _ g1)) ?_ ?_
    · rintro j x σ H6 H7 hj ⟨ks', ws', y8, y9, hm, rfl, S2, di, pt', hrm'⟩ ⟨rfl, ex1⟩
      have hj' : j < ts.length := by
        rw [List.length_map] at hj
        exact hj
      obtain ⟨t, ht⟩ : ∃ t, ts[j]? = some t := get_of rfl hj'
      obtain ⟨e, he⟩ : ∃ e, (ex here)[j]? = some e := get_of g2.symm hj'
      rw [List.getElem?_map, ht] at ex1
      cases ex1
      have htup := S2.sm _ _ (g3 j t e ht he)
      have ejoin : Joins ds e.1 here e.2 := (mem here e.1 e.2).mp (List.mem_of_getElem? he)
      have etake : (ex here).take (j + 1) = (ex here).take j ++ [(e.1, e.2)] := by
        rw [List.take_add_one, he]
        rfl
      obtain ⟨kvs, hk, r⟩ := S2.w
      refine ⟨t, _, rfl, SqT.of htup, rfl, _, _, rfl, _, _, rfl, rfl, ?_⟩
      refine ⟨_, rfl, _, rfl, _, sa, _, sn, rfl, rfl, S2.sm _ _ hsa, _, rfl, ?_⟩
      rw [hS]
      by_cases hd : e.1 ∈ shut
      · rw [decide_eq_true (mem_ofNat.mpr hd)]
        refine iteF (iteF ?_)
        exact ⟨ks', ws', _, _, hm, rfl, S2, by rw [etake]; exact di.skip (.inl hd), pt', hrm'⟩
      · rw [decide_eq_false fun z => hd (mem_ofNat.mp z)]
        refine iteT ⟨_, rfl, _, rfl, pw, _, rfl, DGet.k (k := Sum.inl (e.2 : Int)) hk, _, rfl, ?_⟩
        by_cases hy : e.2 ∈ ks'.map Prod.fst
        · obtain ⟨v, o, hv, _, _⟩ := r.val hy
          rw [hv]
          refine iteF ?_
          exact ⟨ks', ws', _, _, hm, rfl, S2, by rw [etake]; exact di.skip (.inr hy), pt', hrm'⟩
        · rw [r.no hy]
          refine iteT ?_
          have ely := (Joins.lt tree ejoin).2.1
          have di2 := di.add (d := e.1) ely hy
          have hle := di2.le
          rw [List.length_append, List.length_singleton, List.length_map] at hle
          refine ⟨_, rfl, _, rfl, by show 2 ≤ sizeLine; decide, fun t2 nt2 => ⟨_, rfl, _, rfl, pw, _, rfl, DPut.k (k := Sum.inl (e.2 : Int)) (by rw [upd_ne (ne_of_none hk nt2)]; exact hk) (by rw [r.len]; exact small1000 (by omega)), ?_⟩⟩
          have S3 := S2.add npw nt2 hk r (y := e.2) (d := e.1) (here := here) hy
          generalize (upd (upd H7 t2 (.tup [.int (e.1 : Int), .int (here : Int)])) pw (.dK (putK kvs (Sum.inl (e.2 : Int)) (.ref t2)))) = H8 at S3
          refine ⟨_, rfl, .inl ⟨rfl, _, SqL.of S3.q⟩, _, rfl, pq, _, _, rfl, rfl, S3.q, ?_, ?_⟩
          · rw [nv_len]
            have := S2.le
            exact small1000 (by omega)
          · rw [← nv_snoc]
            refine ⟨ks' ++ [(e.2, some (e.1, here))], ws' ++ [e.2], _, _, ?_, rfl, S3.setq npq2 (by have := S2.le; simp; omega), ?_, pt'.add ejoin.symm hd di.he hy, ?_⟩
            · rw [List.length_append, List.length_append, List.length_singleton, List.length_singleton]
              omega
            · rw [etake, List.map_append]
              exact di2
            · rw [List.map_append]
              exact List.mem_append.mpr (.inl hrm')
    · rintro σ H6 ⟨ks', ws', y8, y9, hm, rfl, S2, di, pt', hrm'⟩
      refine ⟨ks', ws', _, _, _, hm, rfl, S2, di.done fun d y j => ?_, pt', hrm'⟩
      rw [List.length_map, g2, List.take_length]
      exact (mem here d y).mpr j
end
end K5

namespace K5
open PySem PySem.Spec PyProof.Rows L2
theorem ptr_side {ds : List (Nat × Nat)} {door room : Nat} {ks : List (Nat × Option (Nat × Nat))} (P : Ptr ds [door] room ks) {side : Nat → Nat → Bool} (s2 : ∀ c d e, ds[d]? = some e → c ≠ d → side c e.1 = side c e.2) :
    ∀ (m x : Nat), x ∈ ks.map Prod.fst → (ks.map Prod.fst).idxOf x = m → side door x = side door room := by
  intro m
  induction m using Nat.strongRecOn with
  | ind m ih =>
    intro x hx hm
    obtain ⟨⟨x', o⟩, hk, rfl⟩ := List.mem_map.mp hx
    cases o with
    | none => rw [P.fin _ hk]
    | some e =>
      obtain ⟨j, ns, hy, lt⟩ := P.st _ e.1 e.2 hk
      rw [side_other s2 j fun z => ns (by rw [z]; exact List.mem_singleton.mpr rfl)]
      exact ih _ (by rw [← hm]; exact lt) e.2 hy rfl
/-- a list of steps (door, start, end), by its doors -/
def Steps (H : Hp) (ts : List Addr) (p : List Nat) : Prop := ts.length = p.length ∧ ∀ (i : Nat) (t : Addr) (d : Nat), ts[i]? = some t → p[i]? = some d → ∃ x y : Int, H t = some (.tup [.int (d : Int), .int x, .int y])
def spSteps (K : PySem.W.Frag) : Sp := fun vs H Q _ => ∃ (p : Addr) (a n room : Nat) (ds : List (Nat × Nat)) (shut : List Nat) (kvs : List (Key × V)) (ks : List (Nat × Option (Nat × Nat))), vs = [.ref p, .int (a : Int)] ∧ H p = some (.dK kvs) ∧ DicR (WayR H) kvs ks ∧ Ptr ds shut room ks ∧
  Tree n ds ∧ ks.length ≤ 1000 ∧ a ∈ ks.map Prod.fst ∧ ∀ (H' : Hp) (q : Addr) (ts : List Addr) (path : List Nat), Same H H' → H q = none → H' q = some (.lst (ts.map V.ref)) → Steps H' ts path → Walk ds a path room → path.Nodup → path.length ≤ 1000 → Q (.ref q) H'
def spPath (K : PySem.W.Frag) : Sp := fun vs H Q _ => ∃ (a : Addr) (ds : List (Nat × Nat)) (n x y : Nat), vs = [.ref a, .int (x : Int), .int (y : Int)] ∧ HouseAt K H a ds ∧ Tree n ds ∧ n ≤ 1000 ∧ x < n ∧ y < n ∧
  ∀ (H' : Hp) (q : Addr) (path : List Nat), Same H H' → H q = none → H' q = some (.lst (nv path)) → Walk ds x path y → path.Nodup → Q (.ref q) H'
def spFar (K : PySem.W.Frag) : Sp := fun vs H Q _ => ∃ (a : Addr) (ds : List (Nat × Nat)) (n door room : Nat), vs = [.ref a, .int (door : Int), .int (room : Int)] ∧ HouseAt K H a ds ∧ Tree n ds ∧ n ≤ 1000 ∧ door < ds.length ∧ room < n ∧
  ∀ (H' : Hp) (q : Addr) (kl : List Nat), Same H H' → H q = none → H' q = some (.lst (nv ((List.range n).filter fun y => decide (y ∉ kl)))) → (∀ x p, Walk ds room p x → door ∉ p → x ∈ kl) →
    (∀ side : Nat → Nat → Bool, (∀ c d e, ds[d]? = some e → c ≠ d → side c e.1 = side c e.2) → ∀ x, x ∈ kl → side door x = side door room) → Q (.ref q) H'
def spStepsB (K : PySem.W.Frag) : Sp := fun vs H Q _ => ∃ (a : Addr) (ds : List (Nat × Nat)) (n x y : Nat), vs = [.ref a, .int (x : Int), .int (y : Int)] ∧ HouseAt K H a ds ∧ Tree n ds ∧ n ≤ 1000 ∧ x < n ∧ y < n ∧
  ∀ (H' : Hp) (q : Addr) (ts : List Addr) (path : List Nat), Same H H' → H q = none → H' q = some (.lst (ts.map V.ref)) → Steps H' ts path → Walk ds x path y → path.Nodup → path.length ≤ 1000 → Q (.ref q) H'
section
variable {P : Program} {w : World} {K : PySem.W.Frag}
      {mg : Str → Option Value} {base : Heap}
theorem ok_steps_along (T : Bl mg) (D : Def K mg "steps_along" s_steps_along) : Cal P w K mg base "steps_along" ["ways", "room"] 1 (spSteps K) := by
  refine D.ok sc_steps_along (fun _ _ _ _ _ _ us hl => match us, hl with | [_, _], _ => rfl) (fun vs H Q E h => ?_) (fun f cdv A outer s H vs Q E hr h => ?_)
  · obtain ⟨p, a, n, room, ds, shut, kvs, ks, rfl, _⟩ := h
    rfl
  obtain ⟨p, a, n, room, ds, shut, kvs, ks, rfl, hp, r, pt, tree, hks, ha, q⟩ := h
  refine ⟨_, (pss_cons (ps_set (i := 2) sc_steps_along.nd rfl (.inl rfl) (pe_lst pa_nil))
    (pss_cons (ps_set (i := 3) sc_steps_along.nd rfl (.inl rfl) (pv 1))
    (pss_cons (ps_while PassesOwn.never (pt_cmpR op_notN (pe_dget (hu_of hr) (pv 0) (pv 3) (fun _ _ => rfl)) pe_non (nomark _)) (pss_cons (ps_asg (pe_dget (hu_of hr) (pv 0) (pv 3) (fun _ _ => rfl)) (pg_tup (n := 2) rfl (pgs_cons (pg_name (i := 4) sc_steps_along.nd rfl (.inl rfl)) (pgs_cons (pg_name (i := 5) sc_steps_along.nd rfl (.inl rfl)) pgs_nil))))
    (pss_cons (ps_expr (pe_bm PySem.F.plainAttrs_list PySem.F.slot_list_append PySem.F.type_list_append mt_append (pv 2) (pa_cons (pe_tup (pa_cons (pv 4) (pa_cons (pv 3) (pa_cons (pv 5) pa_nil)))) pa_nil)))
    (pss_one (ps_set (i := 3) sc_steps_along.nd rfl (.inl rfl) (pv 5))))))
    (pss_one (ps_ret (pv 2)))))), ?_⟩
  refine ⟨Nat.zero_le _, fun q0 nq => ?_⟩
  refine ⟨_, rfl, ?_⟩
  refine ⟨fun m σ H1 => ∃ here path ts y4 y5, m = (ks.map Prod.fst).idxOf here ∧ σ = [some (.ref p), some (.int (a : Int)), some (.ref q0), some (.int (here : Nat)), y4, y5] ∧ Same H H1 ∧ H1 q0 = some (.lst (ts.map V.ref)) ∧ Steps H1 ts path ∧
      Made ds (ks.map Prod.fst) a path here ∧ here ∈ ks.map Prod.fst ∧ path.length + (ks.map Prod.fst).idxOf here ≤ ks.length,
    ⟨_, a, [], [], _, _, rfl, rfl, Same.upd nq, upd_same, ⟨rfl, fun i t d h => by simp at h⟩, Made.start, ha, ?_⟩, fun m σ H1 hW => ?_⟩
  · have := List.idxOf_lt_length_iff.mpr ha
    rw [List.length_map] at this
    simp
    omega
  obtain ⟨here, path, ts, y4, y5, rfl, rfl, sm, hq, st, md, hh, hle⟩ := hW
  obtain ⟨v, o, hv, hko, hw⟩ := r.val hh
  have hk1 := sm _ _ hp
  have hg : DGet H1 p (.int (here : Int)) (some v) := by
    rw [← hv]
    exact DGet.k (k := Sum.inl (here : Int)) hk1
  refine ⟨_, rfl, _, rfl, p, v, rfl, hg, rfl, _, rfl, ?_⟩
  cases o with
  | none =>
    have hw : v = .non := hw
    subst hw
    refine iteF ⟨_, rfl, q H1 q0 ts path sm nq hq st ?_ md.nd (by omega)⟩
    rw [← pt.fin _ hko]
    exact md.w
  | some e =>
    obtain ⟨t, rfl, ht⟩ := hw
    obtain ⟨j, ns, hy, lt⟩ := pt.st here e.1 e.2 hko
    have ht1 := sm _ _ ht
    refine iteT ⟨fun σ' H' => ∃ here' path ts y4 y5, (ks.map Prod.fst).idxOf here' < (ks.map Prod.fst).idxOf here ∧ σ' = [some (.ref p), some (.int (a : Int)), some (.ref q0), some (.int (here' : Nat)), y4, y5] ∧ Same H H' ∧ H' q0 = some (.lst (ts.map V.ref)) ∧ Steps H' ts path ∧
      Made ds (ks.map Prod.fst) a path here' ∧ here' ∈ ks.map Prod.fst ∧ path.length + (ks.map Prod.fst).idxOf here' ≤ ks.length, fun σ' H' ⟨h', p', t', z4, z5, g1, g2⟩ => ⟨_, g1, h', p', t', z4, z5, rfl, g2⟩, ?_⟩
    refine ⟨_, rfl, _, rfl, p, V.ref t, rfl, hg, t, _, rfl, SqT.of ht1, rfl, _, _, rfl, _, _, rfl, rfl, ?_⟩
    refine ⟨_, rfl, .inl ⟨rfl, _, SqL.of hq⟩, _, rfl, _, rfl, _, rfl, by show 3 ≤ sizeLine; decide, fun t2 nt2 => ⟨q0, _, _, rfl, rfl, by rw [upd_ne (ne_of_none hq nt2)]; exact hq, by rw [List.length_map, st.1]; exact small1000 (by omega), ?_⟩⟩
    refine ⟨_, rfl, ?_⟩
    have n2q : t2 ≠ q0 := (ne_of_none hq nt2).symm
    refine ⟨e.2, path ++ [e.1], ts ++ [t2], _, _, lt, rfl, (sm.trans (Same.upd nt2)).at nq, by rw [upd_same, List.map_append]; rfl, ⟨by simp [st.1], fun i t' d' g1 g2 => ?_⟩, md.step ⟨n, tree⟩ pt hko, hy, ?_⟩
    · by_cases hi : i < ts.length
      · rw [List.getElem?_append_left hi] at g1
        rw [List.getElem?_append_left (by rw [← st.1]; exact hi)] at g2
        obtain ⟨x, y, e'⟩ := st.2 i t' d' g1 g2
        refine ⟨x, y, ?_⟩
        rw [upd_ne (ne_lt hq e'), upd_ne (ne_of_none e' nt2)]
        exact e'
      · have hlt := get_lt g1
        rw [List.length_append, List.length_singleton] at hlt
        have ei : i = ts.length := by omega
        subst ei
        rw [List.getElem?_append_right (Nat.le_refl _), Nat.sub_self] at g1
        rw [st.1, List.getElem?_append_right (Nat.le_refl _), Nat.sub_self] at g2
        cases g1
        cases g2
        exact ⟨_, _, by rw [upd_ne n2q, upd_same]⟩
    · rw [List.length_append, List.length_singleton]
      omega
theorem ok_steps_between (T : Bl mg) (D : Def K mg "steps_between" s_steps_between) (C_steps_along : Cal P w K mg base "steps_along" ["ways", "room"] 1 (spSteps K))
    (C_ways_from : Cal P w K mg base "ways_from" ["house", "room", "shut"] 2 (spWays K)) : Cal P w K mg base "steps_between" ["house", "a", "b"] 3 (spStepsB K) := by
  refine D.ok sc_steps_between (fun _ _ _ _ _ _ us hl => match us, hl with | [_, _, _], _ => rfl) (fun vs H Q E h => ?_) (fun f cdv A outer s H vs Q E hr h => ?_)
  · obtain ⟨a, ds, n, x, y, rfl, _⟩ := h
    rfl
  obtain ⟨a, ds, n, x, y, rfl, hH, tree, hn, hx, hy, q⟩ := h
  have hdn := tree.len
  obtain ⟨f_steps_along, fd_steps_along, g_steps_along, k_steps_along, b_steps_along, G_steps_along⟩ := C_steps_along
  obtain ⟨f_ways_from, fd_ways_from, g_ways_from, k_ways_from, b_ways_from, G_ways_from⟩ := C_ways_from
  refine ⟨_, (pss_one (ps_ret (pe_call G_steps_along (hr.mono (by decide)) (by rfl) g_steps_along k_steps_along b_steps_along .nil pass0 (pa_cons (pe_call G_ways_from (hr.mono (by decide)) (by rfl) g_ways_from k_ways_from b_ways_from .nil pass0 (pa_cons (pv 0) (pa_cons (pv 2) (pa_cons (pe_lst pa_nil) pa_nil)))) (pa_cons (pv 1) pa_nil))))), ?_⟩
  refine ⟨_, rfl, _, rfl, Nat.zero_le _, fun sh nsh => ?_⟩
  have sm2 := Same.upd (o := .lst []) nsh
  have hsh : (upd H sh (.lst [])) sh = some (.lst []) := upd_same
  generalize upd H sh (.lst []) = H2 at sm2 hsh
  refine ⟨a, sh, ds, n, y, [], rfl, hH.same sm2, tree, hn, hy, SqL.of hsh, Nat.zero_le _, fun H3 pw kvs ks sm3 npw hpw r df pt hrm => ?_⟩
  have hle := df.le
  rw [List.length_map] at hle
  refine ⟨_, rfl, pw, x, n, y, ds, [], kvs, ks, rfl, hpw, r, pt, tree, by omega, df.all tree hrm x hx, fun H4 ps ts path sm4 nps hps st wk nd hpl => ?_⟩
  have sm5 := (sm2.trans sm3).trans sm4
  exact q H4 ps ts path sm5 ((sm2.trans sm3).free nps) hps st wk nd hpl
theorem ok_doors_between (T : Bl mg) (D : Def K mg "doors_between" s_doors_between) (C_steps_between : Cal P w K mg base "steps_between" ["house", "a", "b"] 3 (spStepsB K)) : Cal P w K mg base "doors_between" ["house", "a", "b"] 4 (spPath K) := by
  refine D.ok sc_doors_between (fun _ _ _ _ _ _ us hl => match us, hl with | [_, _, _], _ => rfl) (fun vs H Q E h => ?_) (fun f cdv A outer s H vs Q E hr h => ?_)
  · obtain ⟨a, ds, n, x, y, rfl, _⟩ := h
    rfl
  obtain ⟨a, ds, n, x, y, rfl, hH, tree, hn, hx, hy, q⟩ := h
  obtain ⟨f_steps_between, fd_steps_between, g_steps_between, k_steps_between, b_steps_between, G_steps_between⟩ := C_steps_between
  refine ⟨_, (pss_one (ps_ret (pe_lc (own := [("door", 3), ("start", 4), ("end", 5)]) (g := gTup K 3 (gCons (gName 3) (gCons (gName 4) (gCons (gName 5) gNil))))  rfl sc_doors_between.nd (pi_list (pe_call G_steps_between (hr.mono (by decide)) (by rfl) g_steps_between k_steps_between b_steps_between .nil pass0 (pa_cons (pv 0) (pa_cons (pv 1) (pa_cons (pv 2) pa_nil))))) (blkOk_by (N := N_doors_between) (sc := defScope s_doors_between) (own := [("door", 3), ("start", 4), ("end", 5)]) (by decide +kernel)) (fun _ _ _ _ _ => (pg_tup (n := 3) rfl (pgs_cons (pg_name (i := 3) sc_doors_between.nd rfl (.inl rfl) (.inr rfl)) (pgs_cons (pg_name (i := 4) sc_doors_between.nd rfl (.inl rfl) (.inr rfl)) (pgs_cons (pg_name (i := 5) sc_doors_between.nd rfl (.inl rfl) (.inr rfl)) pgs_nil))))) (fun _ _ _ _ _ => pts_nil) (fun _ _ _ _ _ => (pv 3))))), ?_⟩
  refine ⟨_, rfl, _, rfl, _, rfl, a, ds, n, x, y, rfl, hH, tree, hn, hx, hy, fun H4 ps ts path sm5 nps hps st wk nd hpl => ?_⟩
  refine ⟨ps, rfl, ⟨_, SqL.of hps⟩, fun pd npd => ?_⟩
  refine lc_it (walk_list (K := K) (a := ps) (xs := ts.map V.ref)) (fun i H5 => Same H4 H5 ∧ H5 pd = some (.lst (nv (path.take i)))) ⟨Same.upd npd, upd_same⟩ (fun i H5 _ h => SqL.of (h.1 _ _ hps)) ?_ ?_
  · rintro i v H5 H6 hi ⟨sm6, hpd⟩ ⟨rfl, ex⟩
    have hi' : i < ts.length := by
      rw [List.length_map] at hi
      exact hi
    obtain ⟨t, ht⟩ : ∃ t, ts[i]? = some t := get_of rfl hi'
    obtain ⟨d, hd⟩ : ∃ d, path[i]? = some d := get_of st.1.symm hi'
    rw [List.getElem?_map, ht] at ex
    cases ex
    obtain ⟨u, v, e⟩ := st.2 i t d ht hd
    refine ⟨t, _, rfl, SqT.of (sm6 _ _ e), rfl, _, _, rfl, _, _, rfl, _, _, rfl, rfl, rfl, lcYes ?_⟩
    refine ⟨_, rfl, _, hpd, ?_, sm6.at npd, ?_⟩
    · rw [nv_len, List.length_take]
      exact small1000 (Nat.le_trans (Nat.min_le_right _ _) hpl)
    · rw [upd_same, ← nv_snoc, List.take_add_one, hd]
      rfl
  · rintro H5 ⟨sm6, hpd⟩
    rw [List.length_map, st.1, List.take_length] at hpd
    exact q H5 pd path (sm5.trans sm6) (sm5.free npd) hpd wk nd
end
end K5

namespace K5
open PySem PySem.Spec PyProof.Rows L2
theorem bits29 {m : Int} (h0 : 0 < m) (h1 : m < 2 ^ 29) : ((Builtin.Int.intBits m : Nat) : Int) / 30 = 0 := by
  have h : Builtin.Int.intBits m ≤ 29 := by
    unfold Builtin.Int.intBits
    have hne : ¬ (m == 0) = true := fun z => by
      have := eq_of_beq z
      omega
    rw [if_neg hne]
    have : m.natAbs.log2 < 29 := (Nat.log2_lt (by omega)).mpr (by omega)
    omega
  omega
/-- a generator of draws: a list of three numbers, the third at most b -/
def GenAt (H : Hp) (g : Addr) (b : Nat) : Prop := ∃ x y z : Int, H g = some (.lst [.int x, .int y, .int z]) ∧ 0 ≤ x ∧ 0 ≤ z ∧ z ≤ (b : Int)
theorem GenAt.mono {H g b c} (h : GenAt H g b) (l : b ≤ c) : GenAt H g c := by
  obtain ⟨x, y, z, a, b, c, d⟩ := h
  exact ⟨x, y, z, a, b, c, by omega⟩
theorem GenAt.same {H H' g b} (h : GenAt H g b) (s : Same H H') : GenAt H' g b := by
  obtain ⟨x, y, z, a, b, c, d⟩ := h
  exact ⟨x, y, z, s _ _ a, b, c, d⟩
theorem GenAt.lst {H g b} (h : GenAt H g b) : ∃ xs, H g = some (.lst xs) := by
  obtain ⟨x, y, z, a, _⟩ := h
  exact ⟨_, a⟩
def spCell (K : PySem.W.Frag) : Sp := fun vs H Q _ => ∃ (a : Addr) (ns : List Int) (i : Int), vs = [.ref a, .int i] ∧ SqL K H a (ns.map V.int) ∧ 0 ≤ i ∧ ∀ z : Int, Q (.int z) H
def spHash : Sp := fun vs H Q _ => ∃ x i : Int, vs = [.int x, .int i] ∧ 0 ≤ i ∧ i < 2 ^ 62 ∧ ∀ z : Int, Q (.int z) H
def spGen (K : PySem.W.Frag) : Sp := fun vs H Q _ => ∃ (a : Addr) (ns : List Int) (i : Nat), vs = [.ref a, .int (i : Int)] ∧ SqL K H a (ns.map V.int) ∧ i ≤ 1000 ∧ ∀ (H' : Hp) (g : Addr), Same H H' → H g = none → GenAt H' g 1000000 → Q (.ref g) H'
def spRand : Sp := fun vs H Q _ => ∃ (g : Addr) (b m : Nat), vs = [.ref g, .int (m : Int)] ∧ GenAt H g b ∧ 0 < m ∧ m < 2 ^ 29 ∧ b < 2 ^ 60 ∧ ∀ (H' : Hp) (v : Nat), But g H H' → GenAt H' g (b + 1) → v < m → Q (.int (v : Int)) H'
section
variable {P : Program} {w : World} {K : PySem.W.Frag}
      {mg : Str → Option Value} {base : Heap}
theorem ok_cell (T : Bl mg) (D : Def K mg "_law_cell" s_l_cell) : Cal P w K mg base "_law_cell" ["_law_script", "_law_index"] 1 (spCell K) := by
  refine D.ok sc_l_cell (fun _ _ _ _ _ _ us hl => match us, hl with | [_, _], _ => rfl) (fun vs H Q E h => ?_) (fun f cdv A outer s H vs Q E hr h => ?_)
  · obtain ⟨a, ns, i, rfl, _⟩ := h
    rfl
  obtain ⟨a, ns, i, rfl, hs, hi, q⟩ := h
  refine ⟨_, (pss_cons (ps_if (pt_cmpR op_lt (pv 1) (pe_callB call_len_seq (by rfl) T.len PySem.boot_len (pa_cons (pv 0) pa_nil)) (nomark _)) (pss_one (ps_ret (pe_ix ix_list (pv 0) (pv 1) (fun _ _ => rfl)))) pss_nil)
    (pss_one (ps_ret pe_int))), ?_⟩
  refine ⟨_, rfl, _, rfl, _, _, rfl, .inl hs, _, _, rfl, rfl, _, rfl, ite2 (fun h => ?_) (fun h => ?_)⟩
  · have h := of_decide_eq_true h
    rw [List.length_map] at h
    obtain ⟨k, rfl⟩ : ∃ k : Nat, i = (k : Int) := ⟨i.toNat, by omega⟩
    have hk : k < ns.length := by omega
    refine ⟨_, rfl, _, rfl, _, _, _, _, rfl, rfl, hs, atI_nat (v := V.int ns[k]) (by rw [List.getElem?_map, List.getElem?_eq_getElem hk]; rfl), q _⟩
  · exact q 0
theorem ok_hash (T : Bl mg) (D : Def K mg "_law_hash" s_l_hash) : Cal P w K mg base "_law_hash" ["_law_seed", "_law_index"] 1 spHash := by
  refine D.ok sc_l_hash (fun _ _ _ _ _ _ us hl => match us, hl with | [_, _], _ => rfl) (fun vs H Q E h => ?_) (fun f cdv A outer s H vs Q E hr h => ?_)
  · obtain ⟨x, i, rfl, _⟩ := h
    rfl
  obtain ⟨x, i, rfl, h0, h1, q⟩ := h
  refine ⟨_, (pss_cons (ps_set (i := 2) sc_l_hash.nd rfl (.inl rfl) (pe_op op_mod (pe_op op_add (pe_op op_add (pe_op op_add (pe_op op_mul (pv 0) pe_int) (pe_op op_mul (pe_op op_mul pe_int (pv 1)) (pv 1))) (pv 1)) pe_int) pe_int))
    (pss_cons (ps_set (i := 2) sc_l_hash.nd rfl (.inl rfl) (pe_op op_mod (pe_op op_add (pe_op op_mul (pv 2) (pv 2)) pe_int) pe_int))
    (pss_one (ps_ret (pe_op op_mod (pe_op op_mul (pv 2) pe_int) pe_int))))), ?_⟩
  refine ⟨_, rfl, _, _, rfl, rfl, .inr (by decide), _, rfl, _, _, rfl, rfl, .inl (by decide), _, rfl, _, _, rfl, rfl, .inr ⟨by omega, by omega⟩, _, _, rfl, rfl, _, rfl, _, _, rfl, rfl, _, _, rfl, rfl, _, _, rfl, rfl, (by show (0 : Int) < 2147483647; decide), ?_⟩
  have b0 := Int.emod_nonneg (x * 1103515245 + 7919 * i * i + i + 1) (show (2147483647 : Int) ≠ 0 by decide)
  have b1 := Int.emod_lt_of_pos (x * 1103515245 + 7919 * i * i + i + 1) (show (0 : Int) < 2147483647 by decide)
  generalize (x * 1103515245 + 7919 * i * i + i + 1) % 2147483647 = u at b0 b1
  refine ⟨_, rfl, _, rfl, _, _, rfl, rfl, .inl ⟨by omega, by omega⟩, _, _, rfl, rfl, _, _, rfl, rfl, (by show (0 : Int) < 2147483629; decide), ?_⟩
  refine ⟨_, rfl, _, _, rfl, rfl, .inr (by decide), _, _, rfl, rfl, (by show (0 : Int) < 2147483587; decide), q _⟩
theorem ok_generator (T : Bl mg) (D : Def K mg "_law_generator" s_l_generator) (C_l_cell : Cal P w K mg base "_law_cell" ["_law_script", "_law_index"] 1 (spCell K)) : Cal P w K mg base "_law_generator" ["_law_script", "_law_index"] 2 (spGen K) := by
  refine D.ok sc_l_generator (fun _ _ _ _ _ _ us hl => match us, hl with | [_, _], _ => rfl) (fun vs H Q E h => ?_) (fun f cdv A outer s H vs Q E hr h => ?_)
  · obtain ⟨a, ns, i, rfl, _⟩ := h
    rfl
  obtain ⟨a, ns, i, rfl, hs, hi, q⟩ := h
  obtain ⟨f_l_cell, fd_l_cell, g_l_cell, k_l_cell, b_l_cell, G_l_cell⟩ := C_l_cell
  refine ⟨_, (pss_cons (ps_set (i := 2) sc_l_generator.nd rfl (.inl rfl) (pe_call G_l_cell (hr.mono (by decide)) (by rfl) g_l_cell k_l_cell b_l_cell .nil pass0 (pa_cons (pv 0) (pa_cons (pv 1) pa_nil))))
    (pss_one (ps_ret (pe_lst (pa_cons (pe_op op_mod (pe_callB (call_max2 rfl) (by rfl) T.max (by decide +kernel) (pa_cons (pe_op op_sub (pv 2) (pe_op op_pow pe_int pe_int)) (pa_cons pe_int pa_nil))) (pe_op op_powX (pe_op op_pow pe_int pe_int) pe_int)) (pa_cons (pe_op op_mod (pv 2) pe_int) (pa_cons (pe_op op_mul pe_int (pv 1)) pa_nil))))))), ?_⟩
  refine ⟨_, rfl, _, rfl, a, ns, _, rfl, hs, by omega, fun z => ?_⟩
  have hpos : (0 : Int) < (10 ^ (60 : Int).toNat) ^ (10 : Int).toNat := by decide +kernel
  refine ⟨_, rfl, _, _, rfl, rfl, ⟨by decide, by decide, by decide⟩, _, _, rfl, rfl, _, _, rfl, _, _, rfl, rfl, ⟨by decide, by decide, by decide⟩, _, _, rfl, rfl, (by decide +kernel), _, _, rfl, rfl, hpos, _, rfl, _, _, rfl, rfl, (by show (0 : Int) < 2147483647; decide), _, rfl, _, _, rfl, rfl, .inl (by decide), by show 3 ≤ sizeLine; decide, fun g ng => ?_⟩
  refine q _ g (Same.upd ng) ng ⟨_, _, _, upd_same, Int.emod_nonneg _ (by omega), by omega, by omega⟩
theorem ok_random (T : Bl mg) (D : Def K mg "_law_random" s_l_random) (C_l_hash : Cal P w K mg base "_law_hash" ["_law_seed", "_law_index"] 1 spHash) : Cal P w K mg base "_law_random" ["_law_generator_here", "_law_bound"] 2 spRand := by
  refine D.ok sc_l_random (fun _ _ _ _ _ _ us hl => match us, hl with | [_, _], _ => rfl) (fun vs H Q E h => ?_) (fun f cdv A outer s H vs Q E hr h => ?_)
  · obtain ⟨g, b, m, rfl, _⟩ := h
    rfl
  obtain ⟨g, b, m, rfl, ⟨x, y, z, hg, hx, hz, hzb⟩, hm, hm2, hb, q⟩ := h
  obtain ⟨f_l_hash, fd_l_hash, g_l_hash, k_l_hash, b_l_hash, G_l_hash⟩ := C_l_hash
  refine ⟨_, (pss_cons (ps_if (pt_cmpR op_gt (pe_ix ix_list (pv 0) pe_int (fun _ _ => rfl)) pe_int (nomark _)) (pss_cons (ps_set (i := 2) sc_l_random.nd rfl (.inl rfl) (pe_op op_mod (pe_ix ix_list (pv 0) pe_int (fun _ _ => rfl)) (pv 1)))
    (pss_cons (ps_asg (pe_op op_fdiv (pe_ix ix_list (pv 0) pe_int (fun _ _ => rfl)) (pv 1)) (pg_sub (pv 0) pe_int set_list))
    (pss_one (ps_ret (pv 2))))) pss_nil)
    (pss_cons (ps_set (i := 2) sc_l_random.nd rfl (.inl rfl) pe_int)
    (pss_cons (ps_for PassesOwn.never rfl (pi_range1 rfl T.range (pa_cons (pe_op op_add pe_int (pe_op op_fdiv (pe_bits (pv 1)) pe_int)) pa_nil)) (pg_name (i := 3) sc_l_random.nd rfl (.inl rfl))
    (pss_cons (ps_asg (pe_op op_add (pe_ix ix_list (pv 0) pe_int (fun _ _ => rfl)) pe_int) (pg_sub (pv 0) pe_int set_list))
    (pss_one (ps_set (i := 2) sc_l_random.nd rfl (.inl rfl) (pe_op op_add (pe_op op_mul (pv 2) pe_int) (pe_call G_l_hash (hr.mono (by decide)) (by rfl) g_l_hash k_l_hash b_l_hash .nil pass0 (pa_cons (pe_ix ix_list (pv 0) pe_int (fun _ _ => rfl)) (pa_cons (pe_ix ix_list (pv 0) pe_int (fun _ _ => rfl)) pa_nil))))))))
    (pss_one (ps_ret (pe_op op_mod (pv 2) (pv 1))))))), ?_⟩
  have hm' : (0 : Int) < (m : Int) := by omega
  refine ⟨_, rfl, _, _, _, V.int x, rfl, rfl, SqL.of hg, atI_nat (j := 0) (v := V.int x) rfl, _, _, rfl, rfl, _, rfl, ite2 (fun h => ?_) (fun h => ?_)⟩
  · refine ⟨_, rfl, _, _, _, V.int x, rfl, rfl, SqL.of hg, atI_nat (j := 0) (v := V.int x) rfl, _, rfl, _, _, rfl, rfl, hm', ?_⟩
    refine ⟨_, rfl, _, _, _, V.int x, rfl, rfl, SqL.of hg, atI_nat (j := 0) (v := V.int x) rfl, _, rfl, _, _, rfl, rfl, ⟨hm', by omega⟩, ?_⟩
    refine ⟨_, rfl, g, _, _, 0, rfl, rfl, hg, rfl, ?_⟩
    refine ⟨_, rfl, ?_⟩
    have e : x % (m : Int) = ((x % (m : Int)).toNat : Int) := (Int.toNat_of_nonneg (Int.emod_nonneg _ (by omega))).symm
    have l := Int.emod_lt_of_pos x hm'
    show Q (.int (x % (m : Int))) _
    rw [e]
    refine q _ _ (fun c o n e => by rw [upd_ne n]; exact e) ⟨x / (m : Int), y, z, upd_same, Int.ediv_nonneg hx (by omega), hz, by omega⟩ (by omega)
  · have eb : (1 : Int) + ((Builtin.Int.intBits (m : Int) : Nat) : Int) / 30 = 1 := by
      rw [bits29 hm' (by omega)]
      rfl
    refine ⟨_, rfl, _, rfl, _, _, rfl, rfl, ⟨by decide, by decide⟩, _, _, rfl, rfl, (1 : Int), congrArg (fun z => [V.int z]) eb, by decide, by decide, ?_⟩
    refine for_range (lo := 0) (n := 1) (fun i σ H1 => ∃ (r : Int) (y3 : Option V) (z1 : Int), σ = [some (.ref g), some (.int (m : Int)), some (.int r), y3] ∧ But g H H1 ∧ H1 g = some (.lst [.int x, .int y, .int z1]) ∧ 0 ≤ z1 ∧ z1 ≤ (b : Int) + (i : Int))
      ⟨0, _, z, rfl, fun _ _ _ e => e, hg, hz, by omega⟩ ?_ ?_
    · rintro i σ H1 hi ⟨r, y3, z1, rfl, bt, hg1, hz1, hz2⟩
      refine ⟨_, rfl, _, _, _, V.int z1, rfl, rfl, SqL.of hg1, atI_nat (j := 2) (v := V.int z1) rfl, _, _, rfl, rfl, _, rfl, g, _, _, 2, rfl, rfl, hg1, rfl, ?_⟩
      have hg2 : (upd H1 g (.lst [.int x, .int y, .int (z1 + 1)])) g = some (.lst [.int x, .int y, .int (z1 + 1)]) := upd_same
      refine ⟨_, rfl, _, _, rfl, rfl, .inr (by decide), _, rfl, _, _, _, V.int y, rfl, rfl, SqL.of hg2, atI_nat (j := 1) (v := V.int y) rfl, _, rfl, _, _, _, V.int (z1 + 1), rfl, rfl, SqL.of hg2, atI_nat (j := 2) (v := V.int (z1 + 1)) rfl, _, _, rfl, by omega, by omega, fun u => ?_⟩
      refine ⟨_, _, rfl, rfl, ?_⟩
      exact ⟨_, _, z1 + 1, rfl, bt.upd _, hg2, by omega, by omega⟩
    · rintro σ H1 ⟨r, y3, z1, rfl, bt, hg1, hz1, hz2⟩
      refine ⟨_, rfl, _, rfl, _, _, rfl, rfl, hm', ?_⟩
      have e : r % (m : Int) = ((r % (m : Int)).toNat : Int) := (Int.toNat_of_nonneg (Int.emod_nonneg _ (by omega))).symm
      have l := Int.emod_lt_of_pos r hm'
      show Q (.int (r % (m : Int))) _
      rw [e]
      exact q _ _ bt ⟨x, y, z1, hg1, hx, hz1, by omega⟩ (by omega)
end
end K5

namespace K5
open PySem PySem.Spec PyProof.Rows L2
theorem cons_erase {α : Type} : ∀ (l : List α) (i : Nat) (y : α), l[i]? = some y → (y :: l.eraseIdx i).Perm l
  | [], i, y, h => by simp at h
  | a :: r, 0, y, h => by
    have e : a = y := Option.some.inj h
    subst e
    exact List.Perm.refl _
  | a :: r, i + 1, y, h => ((List.Perm.swap a y _).trans ((cons_erase r i y h).cons a))
theorem _root_.L2.But.seq {K : PySem.W.Frag} {g a : Addr} {H H' : Hp} {xs : List V} (s : But g H H') (n : a ≠ g) (h : SqL K H a xs) : SqL K H' a xs := by
  rcases h with (h | ⟨o, h⟩) | h
  · exact .inl (.inl (s _ _ n h))
  · exact .inl (.inr ⟨o, s _ _ n h⟩)
  · exact .inr h
theorem _root_.L2.But.at {g p : Addr} {H H' : Hp} (s : But g H H') (n : H p = none) (o : HO) : But g H (upd H' p o) := fun b u ne e => by
  rw [upd_ne (ne_of_none e n)]
  exact s b u ne e
theorem _root_.L2.But.refl (g : Addr) (H : Hp) : But g H H := fun _ _ _ e => e
theorem _root_.L2.But.free {g p : Addr} {H H' : Hp} (s : But g H H') (ne : p ≠ g) (h : H' p = none) : H p = none := by
  cases q : H p with
  | none => rfl
  | some o =>
    rw [s p o ne q] at h
    cases h
theorem GenAt.at {H g b p o} (h : GenAt H g b) (n : p ≠ g) : GenAt (upd H p o) g b := by
  obtain ⟨x, y, z, a, r⟩ := h
  exact ⟨x, y, z, by rw [upd_ne n.symm]; exact a, r⟩
theorem GenAt.ne {H g b p} (h : GenAt H g b) (n : H p = none) : p ≠ g := by
  obtain ⟨x, y, z, a, r⟩ := h
  exact (ne_of_none a n).symm
theorem seq_nat {v n : Nat} (h : v < n) : seqIndex? (v : Int) n = some v := (ixN_seq (ixN_nat h)).1
def spShuf (K : PySem.W.Frag) : Sp := fun vs H Q _ => ∃ (g a : Addr) (b : Nat) (xs : List V), vs = [.ref g, .ref a] ∧ GenAt H g b ∧ SqL K H a xs ∧ a ≠ g ∧ xs.length ≤ 1000 ∧ b < 2 ^ 59 ∧
  ∀ (H' : Hp) (q : Addr) (ys : List V), But g H H' → GenAt H' g (b + xs.length) → H q = none → H' q = some (.lst ys) → ys.Perm xs → Q (.ref q) H'
section
variable {P : Program} {w : World} {K : PySem.W.Frag}
      {mg : Str → Option Value} {base : Heap}
theorem ok_shuffled (T : Bl mg) (D : Def K mg "_law_shuffled" s_l_shuffled) (C_l_random : Cal P w K mg base "_law_random" ["_law_generator_here", "_law_bound"] 2 spRand) : Cal P w K mg base "_law_shuffled" ["_law_generator_here", "_law_items"] 3 (spShuf K) := by
  refine D.ok sc_l_shuffled (fun _ _ _ _ _ _ us hl => match us, hl with | [_, _], _ => rfl) (fun vs H Q E h => ?_) (fun f cdv A outer s H vs Q E hr h => ?_)
  · obtain ⟨g, a, b, xs, rfl, _⟩ := h
    rfl
  obtain ⟨g, a, b, xs, rfl, hg, hs, nag, hxs, hb, q⟩ := h
  obtain ⟨f_l_random, fd_l_random, g_l_random, k_l_random, b_l_random, G_l_random⟩ := C_l_random
  refine ⟨_, (pss_cons (ps_set (i := 2) sc_l_shuffled.nd rfl (.inr rfl) (pe_callTy call_list_of (by rfl) T.list (by decide +kernel) (pa_cons (pv 1) pa_nil)))
    (pss_one (ps_ret (pe_lc (own := [("_law_item", 3)]) (g := gName 3)  (te := (tBM K "list" rPopAt (tVar 2) (tCons (tCall spRand [] E0 (tCons (tVar 0) (tCons (tCB (fun xs H Q => ∃ p ys, xs = [V.ref p] ∧ (SqL K H p ys ∨ SqT K H p ys) ∧ Q (.int ys.length) H) (tCons (tVar 2) tNil)) tNil))) tNil))) rfl sc_l_shuffled.nd (pi_list (pv 1)) (blkOk_by (N := N_l_shuffled) (sc := defScope s_l_shuffled) (own := [("_law_item", 3)]) (by decide +kernel)) (fun _ _ _ _ _ => (pg_name (i := 3) sc_l_shuffled.nd rfl (.inl rfl) (.inr rfl))) (fun _ _ _ _ _ => pts_nil) (fun _ _ _ _ _ => (pe_bm PySem.F.plainAttrs_list PySem.F.slot_list_pop PySem.F.type_list_pop mt_popAt (pv 2) (pa_cons (pe_call G_l_random (hr.mono (by decide)) (by rfl) g_l_random k_l_random b_l_random .nil pass0 (pa_cons (pv 0) (pa_cons (pe_callB call_len_seq (by rfl) T.len PySem.boot_len (pa_cons (pv 2) pa_nil)) pa_nil))) pa_nil))))))), ?_⟩
  refine ⟨_, rfl, a, xs, rfl, .inl hs, fun pp npp => ?_⟩
  have s1 := Same.upd (o := .lst xs) npp
  have h1 : (upd H pp (.lst xs)) pp = some (.lst xs) := upd_same
  have g1 := hg.same s1
  generalize upd H pp (.lst xs) = H1 at s1 h1 g1
  refine ⟨_, rfl, a, rfl, ⟨_, s1.seq hs⟩, fun pd npd => ?_⟩
  have ndp : pd ≠ pp := (ne_of_none h1 npd).symm
  have ndg : pd ≠ g := g1.ne npd
  have npg : pp ≠ g := hg.ne npp
  refine lc_it (walk_list (K := K) (a := a) (xs := xs)) (fun i H2 => ∃ acc pl, But g H H2 ∧ GenAt H2 g (b + i) ∧ H2 pp = some (.lst pl) ∧ H2 pd = some (.lst acc) ∧ (acc ++ pl).Perm xs ∧ acc.length = i)
    ⟨[], xs, s1.but.at (s1.free npd) _, g1.at ndg, by rw [upd_ne ndp.symm]; exact h1, upd_same, List.Perm.refl _, rfl⟩ (fun i H2 _ ⟨_, _, bt, _⟩ => bt.seq nag hs) ?_ ?_
  · rintro i v H2 H3 hi ⟨acc, pl, bt, g2, h2, hd2, pm, hl⟩ ⟨rfl, ex⟩
    have hlen := pm.length_eq
    rw [List.length_append] at hlen
    refine ⟨rfl, lcYes ?_⟩
    refine ⟨_, rfl, .inl ⟨rfl, _, SqL.of h2⟩, _, rfl, _, rfl, pp, pl, rfl, .inl (SqL.of h2), ?_⟩
    refine ⟨g, b + i, pl.length, rfl, g2, by omega, by omega, by omega, fun H4 u bt4 g4 hu => ?_⟩
    have h4 := bt4 _ _ npg h2
    have hd4 := bt4 _ _ ndg hd2
    obtain ⟨y, hy⟩ : ∃ y, pl[u]? = some y := ⟨_, List.getElem?_eq_getElem hu⟩
    refine ⟨pp, pl, _, u, y, rfl, rfl, h4, by omega, by omega, seq_nat hu, hy, ?_⟩
    refine ⟨acc, by rw [upd_ne ndp]; exact hd4, small1000 (by omega), acc ++ [y], pl.eraseIdx u, ?_, ?_, ?_, upd_same, ?_, by rw [List.length_append, hl]; rfl⟩
    · exact (((bt.trans bt4).at npp _).at (s1.free npd) _)
    · exact (g4.at npg).at ndg
    · rw [upd_ne ndp.symm, upd_same]
    · rw [List.append_assoc]
      exact (List.Perm.append_left acc (cons_erase pl u y hy)).trans pm
  · rintro H2 ⟨acc, pl, bt, g2, h2, hd2, pm, hl⟩
    have hlen := pm.length_eq
    rw [List.length_append] at hlen
    have : pl = [] := List.eq_nil_of_length_eq_zero (by omega)
    subst this
    rw [List.append_nil] at pm
    exact q H2 pd acc bt g2 (s1.free npd) hd2 pm
end
end K5

namespace K5
open PySem PySem.Spec PyProof.Rows L2
theorem PairsAt.but {g q : Addr} {H H' : Hp} {l} (h : PairsAt H q l) (hg : ∃ xs, H g = some (.lst xs)) (ne : q ≠ g) (s : But g H H') : PairsAt H' q l := by
  obtain ⟨xs, hx⟩ := hg
  exact h.aside hx ne s
/-- a rearranged list of the same pairs -/
theorem PairsAt.perm {H : Hp} {l : List (Nat × Nat)} {ts : List Addr} {ys : List V} (h2 : ts.length = l.length) (h3 : ∀ (i : Nat) (t : Addr) (e : Nat × Nat), ts[i]? = some t → l[i]? = some e → H t = some (.tup [.int e.1, .int e.2]))
    (p : ys.Perm (ts.map V.ref)) : ∃ (ts' : List Addr) (l' : List (Nat × Nat)), ys = ts'.map V.ref ∧ l'.Perm l ∧ ts'.length = l'.length ∧ ∀ (i : Nat) (t : Addr) (e : Nat × Nat), ts'[i]? = some t → l'[i]? = some e → H t = some (.tup [.int e.1, .int e.2]) := by
  have e1 : ts.map V.ref = (ts.zip l).map (fun z => V.ref z.1) := by
    have e : (ts.zip l).map (fun z => V.ref z.1) = ((ts.zip l).map Prod.fst).map V.ref := by rw [List.map_map]; rfl
    rw [e, List.map_fst_zip (by omega)]
  rw [e1] at p
  obtain ⟨zs, ez, pz⟩ := perm_of_map _ _ _ p
  refine ⟨zs.map Prod.fst, zs.map Prod.snd, by rw [ez, List.map_map]; rfl, ?_, by simp, fun i t e a b => ?_⟩
  · have q := pz.map Prod.snd
    rw [List.map_snd_zip (by omega)] at q
    exact q
  · rw [List.getElem?_map] at a b
    cases hz : zs[i]? with
    | none => rw [hz] at a; cases a
    | some z =>
      rw [hz] at a b
      cases a
      cases b
      have hm := pz.mem_iff.mp (List.mem_of_getElem? hz)
      obtain ⟨j, hj⟩ := List.mem_iff_getElem?.mp hm
      rw [List.getElem?_zip_eq_some] at hj
      exact h3 j _ _ hj.1 hj.2
def spHouse (K : PySem.W.Frag) : Sp := fun vs H Q _ => ∃ (g : Addr) (b most : Nat), vs = [.ref g, .int (most : Int)] ∧ GenAt H g b ∧ 0 < most ∧ most ≤ 100 ∧ b < 2 ^ 50 ∧
  ∀ (H' : Hp) (a : Addr) (ds : List (Nat × Nat)) (n : Nat), But g H H' → GenAt H' g (b + 1000) → a ≠ g → HouseAt K H' a ds → Tree n ds → n ≤ most → Q (.ref a) H'
section
variable {P : Program} {w : World} {K : PySem.W.Frag}
      {mg : Str → Option Value} {base : Heap}
theorem ok_random_house (T : Bl mg) (D : Def K mg "_law_random_house" s_l_random_house) (C_l_random : Cal P w K mg base "_law_random" ["_law_generator_here", "_law_bound"] 2 spRand)
    (C_l_shuffled : Cal P w K mg base "_law_shuffled" ["_law_generator_here", "_law_items"] 3 (spShuf K)) : Cal P w K mg base "_law_random_house" ["_law_generator_here", "_law_most"] 4 (spHouse K) := by
  refine D.ok sc_l_random_house (fun _ _ _ _ _ _ us hl => match us, hl with | [_, _], _ => rfl) (fun vs H Q E h => ?_) (fun f cdv A outer s H vs Q E hr h => ?_)
  · obtain ⟨g, b, most, rfl, _⟩ := h
    rfl
  obtain ⟨g, b, most, rfl, hg, hm0, hm1, hb, q⟩ := h
  obtain ⟨f_l_random, fd_l_random, g_l_random, k_l_random, b_l_random, G_l_random⟩ := C_l_random
  obtain ⟨f_l_shuffled, fd_l_shuffled, g_l_shuffled, k_l_shuffled, b_l_shuffled, G_l_shuffled⟩ := C_l_shuffled
  refine ⟨_, (pss_cons (ps_set (i := 2) sc_l_random_house.nd rfl (.inl rfl) (pe_op op_add pe_int (pe_call G_l_random (hr.mono (by decide)) (by rfl) g_l_random k_l_random b_l_random .nil pass0 (pa_cons (pv 0) (pa_cons (pv 1) pa_nil)))))
    (pss_cons (ps_set (i := 3) sc_l_random_house.nd rfl (.inl rfl) (pe_call G_l_random (hr.mono (by decide)) (by rfl) g_l_random k_l_random b_l_random .nil pass0 (pa_cons (pv 0) (pa_cons pe_int pa_nil))))
    (pss_cons (ps_set (i := 4) sc_l_random_house.nd rfl (.inl rfl) (pe_lst pa_nil))
    (pss_cons (ps_for PassesOwn.never rfl (pi_range2 rfl T.range (pa_cons pe_int (pa_cons (pv 2) pa_nil))) (pg_name (i := 5) sc_l_random_house.nd rfl (.inl rfl))
    (pss_cons (ps_set (i := 6) sc_l_random_house.nd rfl (.inl rfl) (pe_ix ix_list (pe_lst (pa_cons (pe_op op_sub (pv 5) pe_int) (pa_cons pe_int (pa_cons (pe_call G_l_random (hr.mono (by decide)) (by rfl) g_l_random k_l_random b_l_random .nil pass0 (pa_cons (pv 0) (pa_cons (pv 5) pa_nil))) (pa_cons (pe_callB (call_max2 rfl) (by rfl) T.max (by decide +kernel) (pa_cons pe_int (pa_cons (pe_op op_sub (pe_op op_sub (pv 5) pe_int) (pe_call G_l_random (hr.mono (by decide)) (by rfl) g_l_random k_l_random b_l_random .nil pass0 (pa_cons (pv 0) (pa_cons pe_int pa_nil)))) pa_nil))) pa_nil))))) (pv 3) (fun _ _ => rfl)))
    (pss_one (ps_expr (pe_bm PySem.F.plainAttrs_list PySem.F.slot_list_append PySem.F.type_list_append mt_append (pv 4) (pa_cons (pe_tup (pa_cons (pv 6) (pa_cons (pv 5) pa_nil))) pa_nil))))))
    (pss_cons (ps_set (i := 7) sc_l_random_house.nd rfl (.inl rfl) (pe_call G_l_shuffled (hr.mono (by decide)) (by rfl) g_l_shuffled k_l_shuffled b_l_shuffled .nil pass0 (pa_cons (pv 0) (pa_cons (pe_listRg rfl (by rfl) T.list (prg_1 (by rfl) T.range (pv 2))) pa_nil))))
    (pss_cons (ps_set (i := 8) sc_l_random_house.nd rfl (.inl rfl) (pe_lst pa_nil))
    (pss_cons (ps_for PassesOwn.never rfl (pi_list (pe_call G_l_shuffled (hr.mono (by decide)) (by rfl) g_l_shuffled k_l_shuffled b_l_shuffled .nil pass0 (pa_cons (pv 0) (pa_cons (pv 4) pa_nil)))) (pg_tup (n := 2) rfl (pgs_cons (pg_name (i := 9) sc_l_random_house.nd rfl (.inl rfl)) (pgs_cons (pg_name (i := 6) sc_l_random_house.nd rfl (.inl rfl)) pgs_nil)))
    (pss_cons (ps_set (i := 10) sc_l_random_house.nd rfl (.inl rfl) (pe_tup (pa_cons (pe_ix ix_list (pv 7) (pv 9) (fun _ _ => rfl)) (pa_cons (pe_ix ix_list (pv 7) (pv 6) (fun _ _ => rfl)) pa_nil))))
    (pss_one (ps_expr (pe_bm PySem.F.plainAttrs_list PySem.F.slot_list_append PySem.F.type_list_append mt_append (pv 8) (pa_cons (pe_stp (pv 10) (pe_op op_sub pe_int (pe_op op_mul pe_int (pe_call G_l_random (hr.mono (by decide)) (by rfl) g_l_random k_l_random b_l_random .nil pass0 (pa_cons (pv 0) (pa_cons pe_int pa_nil)))))) pa_nil))))))
    (pss_one (ps_ret (pe_callTy call_tuple_of (by rfl) T.tuple (by decide +kernel) (pa_cons (pv 8) pa_nil))))))))))), ?_⟩
  refine ⟨_, rfl, _, rfl, g, b, most, rfl, hg, hm0, by omega, by omega, fun H1 v bt1 g1 hv => ⟨_, _, rfl, rfl, ?_⟩⟩
  refine ⟨_, rfl, g, b + 1, 4, rfl, g1, by decide, by decide, by omega, fun H2 kind bt2 g2 hk => ?_⟩
  refine ⟨Nat.zero_le _, fun pd npd => ?_⟩
  have btd := (bt1.trans bt2).at ((bt1.trans bt2).free (g2.ne npd) npd) (.lst [])
  have hpdg := g2.ne npd
  have npd0 : H pd = none := (bt1.trans bt2).free hpdg npd
  have gd := g2.same (Same.upd (o := .lst []) npd)
  have hd0 : PairsAt (upd H2 pd (.lst [])) pd [] := ⟨[], upd_same, rfl, fun i t e h => by simp at h⟩
  generalize upd H2 pd (.lst []) = H3 at btd gd hd0
  refine ⟨_, rfl, _, _, rfl, ⟨by omega, by omega, by omega, by omega⟩, ?_⟩
  have ev : (1 + (v : Int) - 1).toNat = v := by omega
  refine for_it (walk_range (lo := 1) (n := (1 + (v : Int) - 1).toNat)) (fun i σ H4 => ∃ es y5 y6 y7 y8 y9 y10, σ = [some (.ref g), some (.int (most : Int)), some (.int (1 + (v : Int))), some (.int (kind : Int)), some (.ref pd), y5, y6, y7, y8, y9, y10] ∧
    But g H H4 ∧ GenAt H4 g (b + 2 + 2 * i) ∧ PairsAt H4 pd es ∧ Tr0 (1 + i) es) ⟨[], _, _, _, _, _, _, rfl, btd, gd, hd0, Tr0.one⟩ (fun _ _ _ _ _ => trivial) ?_ ?_
  · rintro i x σ H4 H5 hi ⟨es, y5, y6, y7, y8, y9, y10, rfl, bt, g4, hp, tr⟩ ⟨rfl, hx⟩
    rw [ev] at hi
    have hel := tr.len
    have er : (1 : Int) + (i : Int) = ((1 + i : Nat) : Int) := by omega
    have hx' : x = V.int ((1 + i : Nat) : Int) := hx.trans (congrArg V.int er)
    subst hx'
    refine ⟨_, rfl, _, _, rfl, rfl, _, rfl, _, rfl, g, b + 2 + 2 * i, 1 + i, rfl, g4, by omega, by omega, by omega, fun H6 u1 bt6 g6 hu1 => ?_⟩
    refine ⟨_, rfl, _, _, rfl, rfl, _, rfl, g, _, 3, rfl, g6, by decide, by decide, by omega, fun H7 u2 bt7 g7 hu2 => ⟨_, _, rfl, rfl, _, _, rfl, by show 4 ≤ sizeLine; decide, fun pl npl => ?_⟩⟩
    obtain ⟨o, ho, hlt⟩ : ∃ o : Nat, ([V.int (((1 + i : Nat) : Int) - 1), V.int 0, V.int (u1 : Int), V.int (if ((((1 + i : Nat) : Int) - 1) - (u2 : Int)) > 0 then ((((1 + i : Nat) : Int) - 1) - (u2 : Int)) else 0)] : List V)[kind]? = some (.int (o : Int)) ∧ o < 1 + i := by
      match kind, hk with
      | 0, _ => exact ⟨i, congrArg (fun z => some (V.int z)) (by omega), by omega⟩
      | 1, _ => exact ⟨0, rfl, by omega⟩
      | 2, _ => exact ⟨u1, rfl, hu1⟩
      | 3, _ =>
        by_cases c : ((((1 + i : Nat) : Int) - 1) - (u2 : Int)) > 0
        · exact ⟨((((1 + i : Nat) : Int) - 1) - (u2 : Int)).toNat, congrArg (fun z => some (V.int z)) (by rw [if_pos c]; omega), by omega⟩
        · exact ⟨0, congrArg (fun z => some (V.int z)) (by rw [if_neg c]; rfl), by omega⟩
    refine ⟨_, rfl, pl, _, _, _, rfl, rfl, SqL.of upd_same, atI_nat ho, ?_⟩
    have nplg : pl ≠ g := g7.ne npl
    have bt8 := ((bt.trans bt6).trans bt7).at (((bt.trans bt6).trans bt7).free nplg npl) (.lst [V.int (((1 + i : Nat) : Int) - 1), V.int 0, V.int (u1 : Int), V.int (if ((((1 + i : Nat) : Int) - 1) - (u2 : Int)) > 0 then ((((1 + i : Nat) : Int) - 1) - (u2 : Int)) else 0)])
    have g8 := g7.at (o := .lst [V.int (((1 + i : Nat) : Int) - 1), V.int 0, V.int (u1 : Int), V.int (if ((((1 + i : Nat) : Int) - 1) - (u2 : Int)) > 0 then ((((1 + i : Nat) : Int) - 1) - (u2 : Int)) else 0)]) nplg
    have hp8 := ((hp.but g4.lst hpdg bt6).but g6.lst hpdg bt7).same (Same.upd (o := .lst [V.int (((1 + i : Nat) : Int) - 1), V.int 0, V.int (u1 : Int), V.int (if ((((1 + i : Nat) : Int) - 1) - (u2 : Int)) > 0 then ((((1 + i : Nat) : Int) - 1) - (u2 : Int)) else 0)]) npl)
    generalize upd H7 pl (.lst [V.int (((1 + i : Nat) : Int) - 1), V.int 0, V.int (u1 : Int), V.int (if ((((1 + i : Nat) : Int) - 1) - (u2 : Int)) > 0 then ((((1 + i : Nat) : Int) - 1) - (u2 : Int)) else 0)]) = H8 at bt8 g8 hp8
    obtain ⟨ts, e1, e2, e3⟩ := hp8
    refine ⟨_, rfl, .inl ⟨rfl, _, SqL.of e1⟩, _, rfl, _, rfl, by show 2 ≤ sizeLine; decide, fun t nt => ⟨pd, _, _, rfl, rfl, by rw [upd_ne (ne_of_none e1 nt)]; exact e1, by rw [List.length_map, e2]; exact small1000 (by omega), ?_⟩⟩
    have ntd : t ≠ pd := (ne_of_none e1 nt).symm
    have ntg : t ≠ g := g8.ne nt
    refine ⟨es ++ [(o, 1 + i)], _, _, _, _, _, _, rfl, (bt8.at (bt8.free ntg nt) _).at npd0 _, ((g8.at ntg).at hpdg).mono (by omega), .push (ts := ts) e1 e2 e3 (fun b o ne e => by rw [upd_ne ne, upd_ne (ne_of_none e nt)]; exact e) upd_same (by rw [upd_ne ntd, upd_same]), ?_⟩
    have := tr.grow o hlt
    rw [show 1 + (i + 1) = 1 + i + 1 by omega]
    exact this
  · rintro σ H4 ⟨es, y5, y6, y7, y8, y9, y10, rfl, bt, g4, hp, tr⟩
    rw [ev] at g4 tr
    have hel := tr.len
    obtain ⟨ts, e1, e2, e3⟩ := hp
    have en : rgV 0 (1 + (v : Int)) = nv (List.range (1 + v)) := by
      rw [← rgV_nat, show (((1 + v : Nat)) : Int) = 1 + (v : Int) by omega]
    refine ⟨_, rfl, _, rfl, _, rfl, .of_le (Int.le_refl _) (by omega) (by omega) (by omega), fun pn npn => ?_⟩
    rw [en]
    have npng : pn ≠ g := g4.ne npn
    have bt5 := bt.at (bt.free npng npn) (.lst (nv (List.range (1 + v))))
    have g5 := g4.same (Same.upd (o := .lst (nv (List.range (1 + v)))) npn)
    have hn5 : (upd H4 pn (.lst (nv (List.range (1 + v))))) pn = some (.lst (nv (List.range (1 + v)))) := upd_same
    have s5 := Same.upd (o := .lst (nv (List.range (1 + v)))) npn
    have e1' := s5 _ _ e1
    have e3' := fun i t e a b => s5 _ _ (e3 i t e a b)
    generalize upd H4 pn (.lst (nv (List.range (1 + v)))) = H5 at bt5 g5 hn5 s5 e1' e3'
    refine ⟨g, pn, _, nv (List.range (1 + v)), rfl, g5, SqL.of hn5, npng, by rw [nv_len, List.length_range]; omega, by omega, fun H6 qn ys bt6 g6 nqn hqn pm => ?_⟩
    rw [nv_len, List.length_range] at g6
    obtain ⟨L, rfl, pL⟩ := perm_of_map _ _ _ pm
    have e1'' := bt6 _ _ hpdg e1'
    have e3'' := fun i t e a b => bt6 _ _ (ne_lt (g5.lst.choose_spec) (e3' i t e a b)) (e3' i t e a b)
    have hnd := pL.symm.nodup List.nodup_range
    have hLl : L.length = 1 + v := by rw [pL.length_eq, List.length_range]
    refine ⟨Nat.zero_le _, fun pr npr => ?_⟩
    have nprg : pr ≠ g := g6.ne npr
    have nprn : qn ≠ pr := ne_of_none hqn npr
    have bt7 := (bt5.trans bt6).at ((bt5.trans bt6).free nprg npr) (.lst [])
    have s7 := Same.upd (o := .lst []) npr
    have g7 := g6.same s7
    have hqn7 := s7 _ _ hqn
    have e17 := s7 _ _ e1''
    have e37 := fun i t e a b => s7 _ _ (e3'' i t e a b)
    have hpr7 : (upd H6 pr (.lst [])) pr = some (.lst []) := upd_same
    have npr0 : H pr = none := (bt5.trans bt6).free nprg npr
    generalize upd H6 pr (.lst []) = H7 at bt7 g7 hqn7 e17 e37 hpr7 s7
    refine ⟨_, rfl, _, rfl, g, pd, _, _, rfl, g7, SqL.of e17, hpdg, by rw [List.length_map, e2]; omega, by omega, fun H8 qs ys2 bt8 g8 nqs hqs pm2 => ?_⟩
    rw [List.length_map, e2] at g8
    have nqsg : qs ≠ g := g7.ne nqs
    have nqsr : qs ≠ pr := (ne_of_none hpr7 nqs).symm
    have nqng : qn ≠ g := fun z => by
      subst z
      obtain ⟨xx, yy, zz, ga, _⟩ := g5
      rw [ga] at nqn
      cases nqn
    have e38 := fun i t e a b => bt8 _ _ (ne_lt (g7.lst.choose_spec) (e37 i t e a b)) (e37 i t e a b)
    obtain ⟨ts', es', rfl, pe, hl', pr'⟩ := PairsAt.perm e2 e38 pm2
    have tr' := tr.perm pe
    have hel' := tr'.len
    refine ⟨qs, rfl, ⟨_, SqL.of hqs⟩, ?_⟩
    refine for_it (walk_list (K := K) (a := qs) (xs := ts'.map V.ref)) (fun j σ H9 => ∃ fs y5 y6 y9 y10, σ = [some (.ref g), some (.int (most : Int)), some (.int (1 + (v : Int))), some (.int (kind : Int)), some (.ref pd), y5, y6, some (.ref qn), some (.ref pr), y9, y10] ∧
      But g H H9 ∧ GenAt H9 g (b + 800 + j) ∧ H9 qn = some (.lst (L.map fun (x : Nat) => V.int (x : Int))) ∧ H9 qs = some (.lst (ts'.map V.ref)) ∧ (∀ (i : Nat) (t : Addr) (e : Nat × Nat), ts'[i]? = some t → es'[i]? = some e → H9 t = some (.tup [.int e.1, .int e.2])) ∧
      PairsAt H9 pr fs ∧ Flip ((es'.take j).map fun e => (L.getD e.1 0, L.getD e.2 0)) fs)
      ⟨[], _, _, _, _, rfl, bt7.trans bt8, g8.mono (by omega), bt8 _ _ nqng hqn7, hqs, pr', ⟨[], bt8 _ _ nprg hpr7, rfl, fun i t e h => by simp at h⟩, .nil⟩ (fun i σ H9 _ ⟨_, _, _, _, _, _, _, _, _, h, _⟩ => SqL.of h) ?_ ?_
    · rintro j x σ H9 H10 hj ⟨fs, y5, y6, y9, y10, rfl, bt9, g9, hn9, hs9, p9, hp9, fl⟩ ⟨rfl, ex⟩
      have hj' : j < ts'.length := by
        rw [List.length_map] at hj
        exact hj
      obtain ⟨t, ht⟩ : ∃ t, ts'[j]? = some t := get_of rfl hj'
      obtain ⟨e, he⟩ : ∃ e, es'[j]? = some e := get_of hl'.symm hj'
      rw [List.getElem?_map, ht] at ex
      cases ex
      have htup := p9 j t e ht he
      have elt := tr'.lt e (List.mem_of_getElem? he)
      have a1 : L[e.1]? = some (L.getD e.1 0) := by
        rw [List.getD_eq_getElem?_getD, List.getElem?_eq_getElem (by omega)]
        rfl
      have a2 : L[e.2]? = some (L.getD e.2 0) := by
        rw [List.getD_eq_getElem?_getD, List.getElem?_eq_getElem (by omega)]
        rfl
      obtain ⟨ts3, f1, f2, f3⟩ := hp9
      have flen : fs.length = j := by
        rw [← fl.len, List.length_map, List.length_take]
        have := tr'.len
        have := (List.getElem?_eq_some_iff.mp he).1
        omega
      have etake : (es'.take (j + 1)).map (fun e => (L.getD e.1 0, L.getD e.2 0)) = (es'.take j).map (fun e => (L.getD e.1 0, L.getD e.2 0)) ++ [(L.getD e.1 0, L.getD e.2 0)] := by
        rw [List.take_add_one, he, List.map_append]
        rfl
      have fin : ∀ (Hc : Hp) (tt : Addr) (d1 d2 : Nat), But g H Hc → GenAt Hc g (b + 800 + j + 1) → Hc qn = some (.lst (L.map fun (x : Nat) => V.int (x : Int))) → Hc qs = some (.lst (ts'.map V.ref)) →
          (∀ (i : Nat) (t : Addr) (e : Nat × Nat), ts'[i]? = some t → es'[i]? = some e → Hc t = some (.tup [.int e.1, .int e.2])) → Hc pr = some (.lst (ts3.map V.ref)) →
          (∀ (i : Nat) (t : Addr) (e : Nat × Nat), ts3[i]? = some t → fs[i]? = some e → Hc t = some (.tup [.int e.1, .int e.2])) → Hc tt = some (.tup [.int (d1 : Int), .int (d2 : Int)]) →
          Flip ((es'.take (j + 1)).map fun e => (L.getD e.1 0, L.getD e.2 0)) (fs ++ [(d1, d2)]) →
          ∀ y5 y6 y9 y10, ∃ fs' z5 z6 z9 z10, ([some (.ref g), some (.int (most : Int)), some (.int (1 + (v : Int))), some (.int (kind : Int)), some (.ref pd), y5, y6, some (.ref qn), some (.ref pr), y9, y10] : L2.St) = [some (.ref g), some (.int (most : Int)), some (.int (1 + (v : Int))), some (.int (kind : Int)), some (.ref pd), z5, z6, some (.ref qn), some (.ref pr), z9, z10] ∧
          But g H (upd Hc pr (.lst (ts3.map V.ref ++ [V.ref tt]))) ∧ GenAt (upd Hc pr (.lst (ts3.map V.ref ++ [V.ref tt]))) g (b + 800 + (j + 1)) ∧ (upd Hc pr (.lst (ts3.map V.ref ++ [V.ref tt]))) qn = some (.lst (L.map fun (x : Nat) => V.int (x : Int))) ∧ (upd Hc pr (.lst (ts3.map V.ref ++ [V.ref tt]))) qs = some (.lst (ts'.map V.ref)) ∧
          (∀ (i : Nat) (t : Addr) (e : Nat × Nat), ts'[i]? = some t → es'[i]? = some e → (upd Hc pr (.lst (ts3.map V.ref ++ [V.ref tt]))) t = some (.tup [.int e.1, .int e.2])) ∧
          PairsAt (upd Hc pr (.lst (ts3.map V.ref ++ [V.ref tt]))) pr fs' ∧ Flip ((es'.take (j + 1)).map fun e => (L.getD e.1 0, L.getD e.2 0)) fs' := by
        intro Hc tt d1 d2 k1 k2 k3 k4 k5 k6 k7 k8 k9 y5 y6 y9 y10
        refine ⟨fs ++ [(d1, d2)], _, _, _, _, rfl, k1.at npr0 _, k2.at nprg, by rw [upd_ne nprn]; exact k3, by rw [upd_ne nqsr]; exact k4, fun i t e x y => ?_, .push (ts := ts3) k6 f2 k7 (fun b o ne e => by rw [upd_ne ne]; exact e) upd_same (by rw [upd_ne (ne_lt k6 k8)]; exact k8), k9⟩
        have := k5 i t e x y
        rw [upd_ne (ne_lt k6 this)]
        exact this
      refine ⟨t, _, rfl, SqT.of htup, rfl, _, _, rfl, _, _, rfl, rfl, ?_⟩
      refine ⟨_, rfl, _, rfl, qn, _, _, _, rfl, rfl, SqL.of hn9, atI_nat (v := V.int (L.getD e.1 0 : Nat)) (by rw [List.getElem?_map, a1]; rfl), _, rfl, _, rfl, qn, _, _, _, rfl, rfl, SqL.of hn9, atI_nat (v := V.int (L.getD e.2 0 : Nat)) (by rw [List.getElem?_map, a2]; rfl), by show 2 ≤ sizeLine; decide, fun te nte => ?_⟩
      have nteg : te ≠ g := g9.ne nte
      have sA := Same.upd (o := .tup [.int (L.getD e.1 0 : Nat), .int (L.getD e.2 0 : Nat)]) nte
      have btA := bt9.at (bt9.free nteg nte) (.tup [.int (L.getD e.1 0 : Nat), .int (L.getD e.2 0 : Nat)])
      have gA := g9.same sA
      have hteA : (upd H10 te (.tup [.int (L.getD e.1 0 : Nat), .int (L.getD e.2 0 : Nat)])) te = some (.tup [.int (L.getD e.1 0 : Nat), .int (L.getD e.2 0 : Nat)]) := upd_same
      have hnA := sA _ _ hn9
      have hsA := sA _ _ hs9
      have pA := fun i t e x y => sA _ _ (p9 i t e x y)
      have fA := sA _ _ f1
      have f3A := fun i t e x y => sA _ _ (f3 i t e x y)
      generalize upd H10 te (.tup [.int (L.getD e.1 0 : Nat), .int (L.getD e.2 0 : Nat)]) = HA at sA btA gA hteA hnA hsA pA fA f3A
      refine ⟨_, rfl, .inl ⟨rfl, _, SqL.of fA⟩, _, rfl, _, rfl, g, b + 800 + j, 2, rfl, gA, by decide, by decide, by omega, fun HB u btB gB hu => ?_⟩
      have gAl := gA.lst.choose_spec
      have hteB := btB _ _ nteg hteA
      have hnB := btB _ _ nqng hnA
      have hsB := btB _ _ nqsg hsA
      have pB := fun i t e x y => btB _ _ (ne_lt gAl (pA i t e x y)) (pA i t e x y)
      have fB := btB _ _ nprg fA
      have f3B := fun i t e x y => btB _ _ (ne_lt gAl (f3A i t e x y)) (f3A i t e x y)
      have btHB := btA.trans btB
      refine ⟨_, _, rfl, rfl, .inl (by decide), _, _, rfl, rfl, te, _, _, rfl, SqT.of hteB, ?_⟩
      match u, hu with
      | 0, _ =>
        refine .inl ⟨rfl, pr, _, _, rfl, rfl, fB, by rw [List.length_map, f2]; exact small1000 (by have := tr'.len; have := (List.getElem?_eq_some_iff.mp he).1; omega), ?_⟩
        exact fin HB te _ _ btHB gB hnB hsB pB fB f3B hteB (by rw [etake]; exact fl.snoc _) _ _ _ _
      | 1, _ =>
        refine .inr ⟨rfl, fun tt ntt => ⟨pr, _, _, rfl, rfl, by rw [upd_ne (ne_of_none fB ntt)]; exact fB, by rw [List.length_map, f2]; exact small1000 (by have := tr'.len; have := (List.getElem?_eq_some_iff.mp he).1; omega), ?_⟩⟩
        have nttg : tt ≠ g := gB.ne ntt
        have sC := Same.upd (o := .tup [.int (L.getD e.2 0 : Nat), .int (L.getD e.1 0 : Nat)]) ntt
        exact fin _ tt _ _ (btHB.at (btHB.free nttg ntt) _) (gB.same sC) (sC _ _ hnB) (sC _ _ hsB) (fun i t e x y => sC _ _ (pB i t e x y)) (sC _ _ fB) (fun i t e x y => sC _ _ (f3B i t e x y)) upd_same (by rw [etake]; exact fl.snocT _ _) _ _ _ _
    · rintro σ H9 ⟨fs, y5, y6, y9, y10, rfl, bt9, g9, hn9, hs9, p9, hp9, fl⟩
      rw [List.length_map, hl', List.take_length] at fl
      obtain ⟨ts3, f1, f2, f3⟩ := hp9
      refine ⟨_, rfl, pr, _, rfl, .inl ⟨SqL.of f1, fun pt npt => ?_⟩⟩
      have nptg : pt ≠ g := g9.ne npt
      refine q _ pt fs (1 + v) (bt9.at (bt9.free nptg npt) _) ((g9.same (Same.upd npt)).mono ?_) nptg ⟨ts3, SqT.of upd_same, f2, fun d r e x y => SqT.of (Same.upd npt _ _ (f3 d r e x y))⟩ ((tr'.nv pL).tree fl) (by omega)
      rw [List.length_map, hl']
      omega
end
end K5

namespace K5
open PySem PySem.Spec PyProof.Rows L2
def spNeigh (K : PySem.W.Frag) : Sp := fun vs H Q _ => ∃ (a : Addr) (ds : List (Nat × Nat)) (n x : Nat), vs = [.ref a, .int (x : Int)] ∧ HouseAt K H a ds ∧ Tree n ds ∧ n ≤ 1000 ∧
  ∀ (H' : Hp) (q : Addr) (l : List (Nat × Nat)), Same H H' → H q = none → PairsAt H' q l → (∀ y d, (y, d) ∈ l ↔ Joins ds d x y) → l.Nodup → l.length ≤ ds.length → Q (.ref q) H'
theorem in_pair (x a b : Int) : inV (.int x) [.int a, .int b] = (decide (x = a) || decide (x = b)) := by
  show ((a == x) || ((b == x) || false)) = _
  by_cases h1 : x = a
  · subst h1
    simp
  · by_cases h2 : x = b
    · subst h2
      simp [h1]
    · have e1 : (a == x) = false := beq_eq_false_iff_ne.mpr (Ne.symm h1)
      have e2 : (b == x) = false := beq_eq_false_iff_ne.mpr (Ne.symm h2)
      rw [e1, e2, decide_eq_false h1, decide_eq_false h2]
      rfl
theorem nb_mem {ds : List (Nat × Nat)} {l : List (Nat × Nat)} {k x z : Nat} {e : Nat × Nat} (he : ds[k]? = some e) (mem : ∀ y d, (y, d) ∈ l ↔ d < k ∧ Joins ds d x y) (hz : (x = e.1 ∧ z = e.2) ∨ (x = e.2 ∧ z = e.1)) (ne : e.1 ≠ e.2) (y d : Nat) :
    (y, d) ∈ l ++ [(z, k)] ↔ d < k + 1 ∧ Joins ds d x y := by
  rw [List.mem_append, List.mem_singleton, Prod.mk.injEq, mem y d]
  have jk : Joins ds k x z := by
    rcases hz with ⟨rfl, rfl⟩ | ⟨rfl, rfl⟩
    · exact .inl he
    · exact .inr he
  have nxz : x ≠ z := by
    rcases hz with ⟨rfl, rfl⟩ | ⟨rfl, rfl⟩
    · exact ne
    · exact ne.symm
  constructor
  · rintro (⟨h1, h2⟩ | ⟨rfl, rfl⟩)
    · exact ⟨by omega, h2⟩
    · exact ⟨by omega, jk⟩
  · rintro ⟨h1, h2⟩
    by_cases q : d = k
    · subst q
      exact .inr ⟨(jk.other h2 nxz).symm, rfl⟩
    · exact .inl ⟨by omega, h2⟩
theorem nb_skip {ds : List (Nat × Nat)} {l : List (Nat × Nat)} {k x : Nat} {e : Nat × Nat} (he : ds[k]? = some e) (mem : ∀ y d, (y, d) ∈ l ↔ d < k ∧ Joins ds d x y) (h1 : x ≠ e.1) (h2 : x ≠ e.2) (y d : Nat) :
    (y, d) ∈ l ↔ d < k + 1 ∧ Joins ds d x y := by
  rw [mem y d]
  constructor
  · rintro ⟨a, b⟩
    exact ⟨by omega, b⟩
  · rintro ⟨a, b⟩
    refine ⟨?_, b⟩
    by_cases q : d = k
    · subst q
      rcases b with h | h <;> rw [he] at h <;> cases h
      · exact absurd rfl h1
      · exact absurd rfl h2
    · omega
section
variable {P : Program} {w : World} {K : PySem.W.Frag}
      {mg : Str → Option Value} {base : Heap}
theorem ok_neighbours (T : Bl mg) (D : Def K mg "_law_neighbours" s_l_neighbours) : Cal P w K mg base "_law_neighbours" ["_law_doors", "_law_place"] 1 (spNeigh K) := by
  refine D.ok sc_l_neighbours (fun _ _ _ _ _ _ us hl => match us, hl with | [_, _], _ => rfl) (fun vs H Q E h => ?_) (fun f cdv A outer s H vs Q E hr h => ?_)
  · obtain ⟨a, ds, n, x, rfl, _⟩ := h
    rfl
  obtain ⟨a, ds, n, x, rfl, hH, tree, hn, q⟩ := h
  obtain ⟨rs, hrs, hlen, hds⟩ := id hH
  have hdn := tree.len
  refine ⟨_, (pss_cons (ps_set (i := 2) sc_l_neighbours.nd rfl (.inl rfl) (pe_lst pa_nil))
    (pss_cons (ps_for PassesOwn.never rfl (pi_enumT (by rfl) T.enumerate (pa_cons (pv 0) pa_nil)) (pg_tup (n := 2) rfl (pgs_cons (pg_name (i := 3) sc_l_neighbours.nd rfl (.inl rfl)) (pgs_cons (pg_name (i := 4) sc_l_neighbours.nd rfl (.inl rfl)) pgs_nil)))
    (pss_one (ps_if (pt_cmpR op_in_seq (pv 1) (pv 4) (by rfl)) (pss_one (ps_expr (pe_bm PySem.F.plainAttrs_list PySem.F.slot_list_append PySem.F.type_list_append mt_append (pv 2) (pa_cons (pe_tup (pa_cons (pe_ix ix_tup (pv 4) (pe_callTy call_int1 (by rfl) T.int (by decide +kernel) (pa_cons (pe_cmpR op_eq (pe_ix ix_tup (pv 4) pe_int (fun _ _ => rfl)) (pv 1) (nomark _)) pa_nil)) (fun _ _ => rfl)) (pa_cons (pv 3) pa_nil))) pa_nil)))) pss_nil)))
    (pss_one (ps_ret (pe_callB cr_sortedP (by rfl) T.sorted (by decide +kernel) (pa_cons (pv 2) pa_nil)))))), ?_⟩
  refine ⟨Nat.zero_le _, fun p np => ?_⟩
  refine ⟨_, rfl, a, _, rfl, (Same.upd np).tup hrs, ?_⟩
  refine for_it (walk_enumT (K := K) (a := a) (xs := rs.map V.ref)) (fun k σ H2 => ∃ l y3 y4, σ = [some (.ref a), some (.int (x : Int)), some (.ref p), y3, y4] ∧ Same H H2 ∧ PairsAt H2 p l ∧ (∀ y d, (y, d) ∈ l ↔ d < k ∧ Joins ds d x y) ∧ l.length ≤ k ∧ l.Nodup)
    ⟨[], _, _, rfl, Same.upd np, ⟨[], upd_same, rfl, fun i t e h => by simp at h⟩, fun y d => by simp, Nat.zero_le _, List.nodup_nil⟩ (fun i σ H1 _ ⟨_, _, _, _, sm, _⟩ => sm.tup hrs) ?_ ?_
  · rintro k v σ H2 H3 hk ⟨l, y3, y4, rfl, sm, pa, mem, le, nod⟩ ⟨t, x1, x2, rfl, nt, rfl, ex1, ex2⟩
    cases ex1
    have hk' : k < ds.length := by
      rw [List.length_map, hlen] at hk
      exact hk
    obtain ⟨e, he⟩ : ∃ e, ds[k]? = some e := get_of rfl hk'
    obtain ⟨r, hr0⟩ : ∃ r, rs[k]? = some r := get_of hlen hk'
    have ex2' : V.ref r = x2 := by
      have ex2 : (rs.map V.ref)[k]? = some x2 := ex2
      rw [List.getElem?_map, hr0] at ex2
      exact Option.some.inj ex2
    subst ex2'
    obtain ⟨side, s1, s2⟩ := tree.side
    have ene : e.1 ≠ e.2 := fun z => s1 k e he (by rw [z])
    have smt : Same H2 (upd H2 t (.tup [.int (k : Nat), .ref r])) := Same.upd nt
    have sm3 := sm.trans smt
    have pa3 := pa.same smt
    have htt : (upd H2 t (.tup [.int (k : Nat), .ref r])) t = some (.tup [.int (k : Nat), .ref r]) := upd_same
    generalize upd H2 t (.tup [.int (k : Nat), .ref r]) = H4 at sm3 pa3 smt htt
    have hrd := sm3.tup (hds k r e hr0 he)
    refine ⟨t, _, rfl, SqT.of htt, rfl, _, _, rfl, _, _, rfl, rfl, ?_⟩
    refine ⟨_, rfl, _, rfl, r, _, rfl, .inr hrd, rfl, rfl, _, rfl, ?_⟩
    show if inV (V.int (x : Int)) [V.int (e.1 : Int), V.int (e.2 : Int)] = true then _ else _
    rw [in_pair]
    have fin : ∀ (z : Nat), ((x = e.1 ∧ z = e.2) ∨ (x = e.2 ∧ z = e.1)) → ∀ (y3 y4 : Option V) (t2 : Addr), H4 t2 = none → ∃ ts : List Addr, H4 p = some (.lst (ts.map V.ref)) ∧ (ts.map V.ref).length < sizeLine ∧
        ∃ l' z3 z4, ([some (.ref a), some (.int (x : Int)), some (.ref p), y3, y4] : L2.St) = [some (.ref a), some (.int (x : Int)), some (.ref p), z3, z4] ∧ Same H (upd (upd H4 t2 (.tup [.int (z : Int), .int (k : Int)])) p (.lst (ts.map V.ref ++ [V.ref t2]))) ∧
          PairsAt (upd (upd H4 t2 (.tup [.int (z : Int), .int (k : Int)])) p (.lst (ts.map V.ref ++ [V.ref t2]))) p l' ∧ (∀ y d, (y, d) ∈ l' ↔ d < k + 1 ∧ Joins ds d x y) ∧ l'.length ≤ k + 1 ∧ l'.Nodup := by
      intro z hz y3 y4 t2 nt2
      obtain ⟨ts, f1, f2, f3⟩ := pa3
      refine ⟨ts, f1, by rw [List.length_map, f2]; exact small1000 (by omega), l ++ [(z, k)], _, _, rfl, (sm3.trans (Same.upd nt2)).at np, .push (ts := ts) f1 f2 f3 (fun b o ne e => by rw [upd_ne ne, upd_ne (ne_of_none e nt2)]; exact e) upd_same (by rw [upd_ne (ne_of_none f1 nt2).symm, upd_same]), nb_mem he mem hz ene, by simp; exact le, ?_⟩
      refine List.nodup_append.mpr ⟨nod, by simp, fun a ha b hb => ?_⟩
      rintro rfl
      rw [List.mem_singleton] at hb
      subst hb
      have := (mem z k).mp ha
      omega
    by_cases h1 : x = e.1
    · rw [decide_eq_true (show (x : Int) = (e.1 : Int) by omega), Bool.true_or]
      refine iteT ?_
      obtain ⟨ts0, f10, _⟩ := pa3
      refine ⟨_, rfl, .inl ⟨rfl, _, SqL.of f10⟩, _, rfl, _, rfl, r, _, _, _, rfl, rfl, hrd, atI_nat (j := 0) rfl, _, rfl, rfl, .inr ⟨_, rfl, ?_⟩⟩
      rw [decide_eq_true (show V.int (e.1 : Int) = V.int (x : Int) by rw [h1])]
      refine ⟨r, _, _, _, rfl, rfl, hrd, atI_nat (j := 1) rfl, _, rfl, by show 2 ≤ sizeLine; decide, fun t2 nt2 => ?_⟩
      obtain ⟨ts, g1, g2, g3⟩ := fin e.2 (.inl ⟨h1, rfl⟩) _ _ t2 nt2
      exact ⟨p, _, _, rfl, rfl, by rw [upd_ne (ne_of_none g1 nt2)]; exact g1, g2, g3⟩
    · by_cases h2 : x = e.2
      · rw [decide_eq_true (show (x : Int) = (e.2 : Int) by omega), Bool.or_true]
        refine iteT ?_
        obtain ⟨ts0, f10, _⟩ := pa3
        refine ⟨_, rfl, .inl ⟨rfl, _, SqL.of f10⟩, _, rfl, _, rfl, r, _, _, _, rfl, rfl, hrd, atI_nat (j := 0) rfl, _, rfl, rfl, .inr ⟨_, rfl, ?_⟩⟩
        rw [decide_eq_false (show ¬ V.int (e.1 : Int) = V.int (x : Int) from fun z => h1 (by have := V.int.inj z; omega))]
        refine ⟨r, _, _, _, rfl, rfl, hrd, atI_nat (j := 0) rfl, _, rfl, by show 2 ≤ sizeLine; decide, fun t2 nt2 => ?_⟩
        obtain ⟨ts, g1, g2, g3⟩ := fin e.1 (.inr ⟨h2, rfl⟩) _ _ t2 nt2
        exact ⟨p, _, _, rfl, rfl, by rw [upd_ne (ne_of_none g1 nt2)]; exact g1, g2, g3⟩
      · rw [decide_eq_false (show ¬ (x : Int) = (e.1 : Int) by omega), decide_eq_false (show ¬ (x : Int) = (e.2 : Int) by omega)]
        exact iteF ⟨l, _, _, rfl, sm3, pa3, nb_skip he mem h1 h2, by omega, nod⟩
  · rintro σ H2 ⟨l, y3, y4, rfl, sm, pa, mem, le, nod⟩
    obtain ⟨ts, f1, f2, f3⟩ := pa
    refine ⟨_, rfl, p, _, rfl, SqL.of f1, fun v hv => ?_, fun ys q0 pm nq => ?_⟩
    · obtain ⟨t, ht, rfl⟩ := List.mem_map.mp hv
      obtain ⟨i, hi⟩ := List.mem_iff_getElem?.mp ht
      obtain ⟨e, he⟩ := get_of f2.symm (get_lt hi)
      exact ⟨t, _, _, rfl, f3 i t e hi he⟩
    · obtain ⟨ts', l', rfl, pl, hl', pr'⟩ := PairsAt.perm f2 f3 pm
      refine q _ q0 l' (sm.trans (Same.upd nq)) (sm.free nq) ⟨ts', upd_same, hl', fun i t e x y => Same.upd nq _ _ (pr' i t e x y)⟩ (fun y d => ?_) (pl.nodup_iff.mpr nod) (by rw [pl.length_eq]; rw [List.length_map, hlen] at le; exact le)
      rw [pl.mem_iff, mem y d]
      refine ⟨fun h => h.2, fun h => ⟨?_, h⟩⟩
      rw [List.length_map, hlen]
      rcases h with h | h
      · exact get_lt h
      · exact get_lt h
end
end K5

namespace K5
open PySem PySem.Spec PyProof.Rows L2
/-! ### moves and states, as plain mathematics -/
/-- person, start, end -/
abbrev Mv := Nat × Nat × Nat
/-- where each person is; whom each door bars -/
abbrev S2 := List Nat × List Nat
theorem Tree.one_door {n ds} (T : Tree n ds) {d c x y : Nat} (j : Joins ds d x y) (k : Joins ds c x y) : d = c := by
  obtain ⟨side, s1, s2⟩ := T.side
  refine Classical.byContradiction fun h => ?_
  exact side_join s1 j (side_other s2 k h)
/-- the door between two rooms -/
def dix (ds : List (Nat × Nat)) (x y : Nat) : Nat := ((List.range ds.length).find? fun d => decide (ds[d]? = some (x, y) ∨ ds[d]? = some (y, x))).getD 0
theorem joins_lt {ds : List (Nat × Nat)} {d x y : Nat} (j : Joins ds d x y) : d < ds.length := by
  rcases j with j | j
  · exact get_lt j
  · exact get_lt j
theorem dix_is {n ds} (T : Tree n ds) {d x y : Nat} (j : Joins ds d x y) : dix ds x y = d := by
  unfold dix
  cases h : (List.range ds.length).find? fun d => decide (ds[d]? = some (x, y) ∨ ds[d]? = some (y, x)) with
  | none =>
    have := List.find?_eq_none.mp h d (List.mem_range.mpr (joins_lt j))
    exact absurd (decide_eq_true (show ds[d]? = some (x, y) ∨ ds[d]? = some (y, x) from j)) this
  | some c =>
    have k : ds[c]? = some (x, y) ∨ ds[c]? = some (y, x) := by
      have := List.find?_some h
      exact of_decide_eq_true this
    exact T.one_door k j
/-- a move that names a person and a door -/
def VM (ds : List (Nat × Nat)) (P : Nat) (m : Mv) : Prop := m.1 < P ∧ ∃ d, Joins ds d m.2.1 m.2.2
/-- why the move is not possible -/
def why (ds : List (Nat × Nat)) (S : S2) (m : Mv) : Option String :=
  if S.1.getD m.1 0 ≠ m.2.1 then some "away" else if S.2.getD (dix ds m.2.1 m.2.2) 0 = m.1 then some "barred" else none
def nxt (ds : List (Nat × Nat)) (S : S2) (m : Mv) : S2 := (S.1.set m.1 m.2.2, S.2.set (dix ds m.2.1 m.2.2) m.1)
def runs (ds : List (Nat × Nat)) : Nat → S2 → List Mv → (Nat × String) ⊕ S2
  | _, S, [] => .inr S
  | i, S, m :: r => match why ds S m with
    | some w => .inl (i, w)
    | none => runs ds (i + 1) (nxt ds S m) r
structure StOk (n : Nat) (ds : List (Nat × Nat)) (S : S2) : Prop where
  one : 1 ≤ S.1.length
  few : S.1.length ≤ 4
  rooms : ∀ x ∈ S.1, x < n
  doors : S.2.length = ds.length
  bars : ∀ y ∈ S.2, y < S.1.length
theorem StOk.nxt {n ds S m} (T : Tree n ds) (h : StOk n ds S) (v : VM ds S.1.length m) : StOk n ds (nxt ds S m) := by
  obtain ⟨v1, d, j⟩ := v
  obtain ⟨_, l2, _, _⟩ := j.lt T
  have e1 : (K5.nxt ds S m).1.length = S.1.length := List.length_set
  refine ⟨by rw [e1]; exact h.one, by rw [e1]; exact h.few, fun x hx => ?_, by rw [show (K5.nxt ds S m).2.length = S.2.length from List.length_set]; exact h.doors, fun y hy => ?_⟩
  · rcases List.mem_or_eq_of_mem_set hx with q | q
    · exact h.rooms x q
    · rw [q]; exact l2
  · rw [e1]
    rcases List.mem_or_eq_of_mem_set hy with q | q
    · exact h.bars y q
    · rw [q]; exact v1
theorem nxt_len {ds S m} : (nxt ds S m).1.length = S.1.length := List.length_set
theorem runs_drop {ds : List (Nat × Nat)} {S : S2} {ms : List Mv} {k : Nat} {m : Mv} (h : ms[k]? = some m) : runs ds k S (ms.drop k) = match why ds S m with
    | some w => .inl (k, w)
    | none => runs ds (k + 1) (nxt ds S m) (ms.drop (k + 1)) := by
  have hk := get_lt h
  have e : ms.drop k = m :: ms.drop (k + 1) := by
    rw [List.drop_eq_getElem_cons hk]
    rw [List.getElem?_eq_getElem hk] at h
    rw [Option.some.inj h]
  rw [e]
  rfl
/-- the moves that are possible -/
def Can (ds : List (Nat × Nat)) (S : S2) (m : Mv) : Prop := m.1 < S.1.length ∧ S.1[m.1]? = some m.2.1 ∧ ∃ d, Joins ds d m.2.1 m.2.2 ∧ S.2[d]? ≠ some m.1
theorem Can.vm {ds S m} (h : Can ds S m) : VM ds S.1.length m := ⟨h.1, h.2.2.choose, h.2.2.choose_spec.1⟩
theorem getD_of {l : List Nat} {i x : Nat} (h : l[i]? = some x) : l.getD i 0 = x := by
  rw [List.getD_eq_getElem?_getD, h]
  rfl
theorem Can.why {n ds S m} (T : Tree n ds) (h : Can ds S m) (o : StOk n ds S) : why ds S m = none := by
  obtain ⟨h1, h2, d, j, h3⟩ := h
  unfold K5.why
  rw [if_neg (by rw [getD_of h2]; simp), dix_is T j]
  have hd : d < S.2.length := by rw [o.doors]; exact joins_lt j
  obtain ⟨b, hb⟩ : ∃ b, S.2[d]? = some b := get_of rfl hd
  rw [getD_of hb, if_neg]
  intro z
  exact h3 (by rw [hb, z])
def mcode (m : Mv) : Int := TS.code 64 [(m.1 : Int), (m.2.1 : Int), (m.2.2 : Int)]
theorem mcode_is (m : Mv) : mcode m = (m.1 : Int) * 4096 + (m.2.1 : Int) * 64 + (m.2.2 : Int) := by
  unfold mcode
  show (m.1 : Int) * 64 ^ 2 + ((m.2.1 : Int) * 64 ^ 1 + ((m.2.2 : Int) * 64 ^ 0 + 0)) = _
  rw [show (64 : Int) ^ 2 = 4096 by decide, show (64 : Int) ^ 1 = 64 by decide, show (64 : Int) ^ 0 = 1 by decide]
  omega
def Sm (m : Mv) : Prop := m.1 < 64 ∧ m.2.1 < 64 ∧ m.2.2 < 64
theorem mcode_inj {m m' : Mv} (a : Sm m) (b : Sm m') (e : mcode m = mcode m') : m = m' := by
  obtain ⟨x, y, z⟩ := m
  obtain ⟨x', y', z'⟩ := m'
  rw [mcode_is, mcode_is] at e
  unfold Sm at a b
  simp only at e a b
  have h1 : x = x' := by omega
  have h2 : y = y' := by omega
  have h3 : z = z' := by omega
  rw [h1, h2, h3]
/-- the moves with P, each once, ascending -/
structure Canon (l : List Mv) (P : Mv → Prop) : Prop where
  mem : ∀ m, m ∈ l ↔ P m
  sm : ∀ m ∈ l, Sm m
  asc : l.Pairwise fun a b => mcode a < mcode b
theorem asc_unique : ∀ (l l' : List Mv), (l.Pairwise fun a b => mcode a < mcode b) → (l'.Pairwise fun a b => mcode a < mcode b) → (∀ m, m ∈ l ↔ m ∈ l') → (∀ m ∈ l, Sm m) → l = l'
  | [], [], _, _, _, _ => rfl
  | [], b :: r, _, _, h, _ => by
    have := (h b).mpr List.mem_cons_self
    cases this
  | a :: r, [], _, _, h, _ => by
    have := (h a).mp List.mem_cons_self
    cases this
  | a :: r, b :: r', p, p', h, sm => by
    obtain ⟨p1, p2⟩ := List.pairwise_cons.mp p
    obtain ⟨q1, q2⟩ := List.pairwise_cons.mp p'
    have e : a = b := by
      rcases List.mem_cons.mp ((h a).mp List.mem_cons_self) with e | h1
      · exact e
      · rcases List.mem_cons.mp ((h b).mpr List.mem_cons_self) with e | h2
        · exact e.symm
        · have := p1 b h2
          have := q1 a h1
          omega
    subst e
    have : r = r' := by
      refine asc_unique r r' p2 q2 (fun m => ?_) fun m hm => sm m (List.mem_cons_of_mem _ hm)
      constructor
      · intro hm
        rcases List.mem_cons.mp ((h m).mp (List.mem_cons_of_mem _ hm)) with e | h1
        · subst e
          have := p1 m hm
          omega
        · exact h1
      · intro hm
        rcases List.mem_cons.mp ((h m).mpr (List.mem_cons_of_mem _ hm)) with e | h1
        · subst e
          have := q1 m hm
          omega
        · exact h1
    rw [this]
theorem Canon.unique {l l' P} (a : Canon l P) (b : Canon l' P) : l = l' := asc_unique l l' a.asc b.asc (fun m => (a.mem m).trans (b.mem m).symm) a.sm
/-! ### how they stand in the heap -/
def tI (m : Mv) : List V := [.int (m.1 : Int), .int (m.2.1 : Int), .int (m.2.2 : Int)]
def TL (H : Hp) (ts : List Addr) (l : List Mv) : Prop := ts.length = l.length ∧ ∀ (i : Nat) (t : Addr) (m : Mv), ts[i]? = some t → l[i]? = some m → H t = some (.tup (tI m))
def TrisAt (H : Hp) (q : Addr) (l : List Mv) : Prop := ∃ ts : List Addr, H q = some (.lst (ts.map V.ref)) ∧ TL H ts l
def StateAt (K : PySem.W.Frag) (H : Hp) (a : Addr) (S : S2) : Prop := ∃ r b : Addr, SqT K H a [.ref r, .ref b] ∧ SqT K H r (nv S.1) ∧ SqT K H b (nv S.2)
section
variable {K : PySem.W.Frag} {H H' : Hp} {a g q t : Addr} {S : S2} {l : List Mv} {ts : List Addr} {m : Mv}
theorem StateAt.same (h : StateAt K H a S) (s : Same H H') : StateAt K H' a S := by
  obtain ⟨r, b, h1, h2, h3⟩ := h
  exact ⟨r, b, s.tup h1, s.tup h2, s.tup h3⟩
theorem StateAt.but {xs : List V} (h : StateAt K H a S) (hg : H g = some (.lst xs)) (s : But g H H') : StateAt K H' a S := by
  obtain ⟨r, b, h1, h2, h3⟩ := h
  exact ⟨r, b, s.tup hg h1, s.tup hg h2, s.tup hg h3⟩
theorem TL.same (h : TL H ts l) (s : Same H H') : TL H' ts l := ⟨h.1, fun i t m x y => s _ _ (h.2 i t m x y)⟩
theorem TL.but {xs : List V} (h : TL H ts l) (hg : H g = some (.lst xs)) (s : But g H H') : TL H' ts l := ⟨h.1, fun i t m x y => s _ _ (ne_lt hg (h.2 i t m x y)) (h.2 i t m x y)⟩
theorem TL.nil : TL H [] [] := ⟨rfl, fun i t m x => by simp at x⟩
theorem TL.append {ts2 : List Addr} {l2 : List Mv} (h : TL H ts l) (h2 : TL H ts2 l2) : TL H (ts ++ ts2) (l ++ l2) := by
  refine ⟨by rw [List.length_append, List.length_append, h.1, h2.1], fun i t m x y => ?_⟩
  by_cases hi : i < ts.length
  · rw [List.getElem?_append_left hi] at x
    rw [List.getElem?_append_left (by rw [← h.1]; exact hi)] at y
    exact h.2 i t m x y
  · rw [List.getElem?_append_right (by omega)] at x
    rw [List.getElem?_append_right (by rw [← h.1]; omega), ← h.1] at y
    exact h2.2 _ t m x y
theorem TL.one (h : H t = some (.tup (tI m))) : TL H [t] [m] := by
  refine ⟨rfl, fun i t' m' x y => ?_⟩
  match i with
  | 0 => cases x; cases y; exact h
  | i + 1 => simp at x
theorem TL.take (h : TL H ts l) (k : Nat) : TL H (ts.take k) (l.take k) := by
  refine ⟨by rw [List.length_take, List.length_take, h.1], fun i t m x y => ?_⟩
  rw [List.getElem?_take] at x y
  split at x
  · rename_i hi
    rw [if_pos hi] at y
    exact h.2 i t m x y
  · cases x
theorem TL.drop (h : TL H ts l) (k : Nat) : TL H (ts.drop k) (l.drop k) := by
  refine ⟨by rw [List.length_drop, List.length_drop, h.1], fun i t m x y => ?_⟩
  rw [List.getElem?_drop] at x y
  exact h.2 _ t m x y
theorem TrisAt.same (h : TrisAt H q l) (s : Same H H') : TrisAt H' q l := by
  obtain ⟨ts, h1, h2⟩ := h
  exact ⟨ts, s _ _ h1, h2.same s⟩
theorem TL.perm (h : TL H ts l) {ys : List V} (p : ys.Perm (ts.map V.ref)) : ∃ (ts' : List Addr) (l' : List Mv), ys = ts'.map V.ref ∧ l'.Perm l ∧ TL H ts' l' := by
  have e1 : ts.map V.ref = (ts.zip l).map (fun z => V.ref z.1) := by
    have e : (ts.zip l).map (fun z => V.ref z.1) = ((ts.zip l).map Prod.fst).map V.ref := by rw [List.map_map]; rfl
    rw [e, List.map_fst_zip (by rw [h.1]; omega)]
  rw [e1] at p
  obtain ⟨zs, ez, pz⟩ := perm_of_map _ _ _ p
  refine ⟨zs.map Prod.fst, zs.map Prod.snd, by rw [ez, List.map_map]; rfl, ?_, by simp, fun i t e a b => ?_⟩
  · have q := pz.map Prod.snd
    rw [List.map_snd_zip (by rw [h.1]; omega)] at q
    exact q
  · rw [List.getElem?_map] at a b
    cases hz : zs[i]? with
    | none => rw [hz] at a; cases a
    | some z =>
      rw [hz] at a b
      cases a
      cases b
      have hm := pz.mem_iff.mp (List.mem_of_getElem? hz)
      obtain ⟨j, hj⟩ := List.mem_iff_getElem?.mp hm
      rw [List.getElem?_zip_eq_some] at hj
      exact h.2 j _ _ hj.1 hj.2
/-- sorted's answer over such moves -/
theorem sorted_canon {ys : List V} {P : Mv → Prop} (h : TL H ts l) (mem : ∀ m, m ∈ l ↔ P m) (sm : ∀ m ∈ l, Sm m) (nd : l.Nodup) (pm : ys.Perm (ts.map V.ref))
    (asc : ys.Pairwise fun x y => ∀ n m, TupI K H x n → TupI K H y m → TS.code 64 n ≤ TS.code 64 m) : ∃ (ts' : List Addr) (l' : List Mv), ys = ts'.map V.ref ∧ Canon l' P ∧ TL H ts' l' := by
  obtain ⟨ts', l', rfl, pl, tl⟩ := h.perm pm
  have nd' := pl.nodup_iff.mpr nd
  refine ⟨ts', l', rfl, ⟨fun m => pl.mem_iff.trans (mem m), fun m hm => sm m (pl.mem_iff.mp hm), ?_⟩, tl⟩
  rw [List.pairwise_iff_getElem]
  intro i j hi hj hij
  have hi' : i < ts'.length := by rw [tl.1]; exact hi
  have hj' : j < ts'.length := by rw [tl.1]; exact hj
  have a1 := List.pairwise_iff_getElem.mp asc i j (by rw [List.length_map]; exact hi') (by rw [List.length_map]; exact hj') hij
  rw [List.getElem_map, List.getElem_map] at a1
  have t1 := tl.2 i ts'[i] l'[i] (List.getElem?_eq_getElem hi') (List.getElem?_eq_getElem hi)
  have t2 := tl.2 j ts'[j] l'[j] (List.getElem?_eq_getElem hj') (List.getElem?_eq_getElem hj)
  have le : mcode l'[i] ≤ mcode l'[j] := a1 _ _ ⟨_, rfl, SqT.of t1⟩ ⟨_, rfl, SqT.of t2⟩
  have ne : mcode l'[i] ≠ mcode l'[j] := by
    intro e
    have := mcode_inj (sm _ (pl.mem_iff.mp (List.getElem_mem hi))) (sm _ (pl.mem_iff.mp (List.getElem_mem hj))) e
    exact absurd this (List.pairwise_iff_getElem.mp nd' i j hi hj hij)
  omega
theorem tup_of {m : Mv} (h : H t = some (.tup (tI m))) (sm : Sm m) : ∃ ns, TupI K H (.ref t) ns ∧ ns.length = 3 ∧ TS.Bd 64 ns := by
  refine ⟨[(m.1 : Int), (m.2.1 : Int), (m.2.2 : Int)], ⟨t, rfl, SqT.of h⟩, rfl, ?_⟩
  obtain ⟨h1, h2, h3⟩ := sm
  intro x hx
  simp only [List.mem_cons, List.not_mem_nil,
        or_false] at hx
  rcases hx with rfl | rfl | rfl <;> omega
end
/-! ### as data -/
def dM (m : Mv) : PyData := .tuple [.int (m.1 : Int), .int (m.2.1 : Int), .int (m.2.2 : Int)]
def dMs (l : List Mv) : PyData := .list (l.map dM)
def dIs (l : List Nat) : List PyData := (l.map fun x : Nat => (x : Int)).map PyData.int
def dS (S : S2) : PyData := .tuple [.tuple (dIs S.1), .tuple (dIs S.2)]
def dO : (Nat × String) ⊕ S2 → PyData
  | .inl (i, w) => .list [.int (i : Int), .tuple [.str (Str.ofString w)]]
  | .inr S => dS S
theorem dIs_lay : ∀ l : List Nat, PyData.canLayAll0 (dIs l) = true
  | [] => by simp [dIs, PyData.canLayAll0]
  | x :: r => by
    have := dIs_lay r
    unfold dIs at this ⊢
    simp only [List.map_cons, PyData.canLayAll0, PyData.canLay0, this, Bool.and_true]
theorem dIs_depth : ∀ l : List Nat, PyData.depthAll (dIs l) ≤ 1
  | [] => by simp [dIs, PyData.depthAll]
  | x :: r => by
    have := dIs_depth r
    unfold dIs at this ⊢
    simp only [List.map_cons, PyData.depthAll,
          PyData.depth]
    omega
theorem dM_lay (z : Mv) : (dM z).canLay0 = true := by simp [dM, PyData.canLay0, PyData.canLayAll0]
theorem dM_depth (z : Mv) : (dM z).depth ≤ 2 := by simp [dM, PyData.depth, PyData.depthAll]
theorem dMs_lay : ∀ zs : List Mv, PyData.canLayAll0 (zs.map dM) = true
  | [] => by simp [PyData.canLayAll0]
  | z :: zs => by simp [PyData.canLayAll0, dM_lay z, dMs_lay zs]
theorem dMs_depth : ∀ zs : List Mv, PyData.depthAll (zs.map dM) ≤ 2
  | [] => by simp [PyData.depthAll]
  | z :: zs => by
    have h1 := dMs_depth zs
    have h2 := dM_depth z
    simp only [List.map_cons, PyData.depthAll]
    omega
theorem shaped_mk {d : PyData} (h1 : d.canLay0 = true) (h2 : d.depth ≤ 64) : SeqAt.shaped d = true := by
  show (d.canLay0 && decide (d.depth ≤ 64)) = true
  rw [h1, decide_eq_true h2]
  rfl
theorem dMs_shaped (l : List Mv) : SeqAt.shaped (dMs l) = true := by
  have h := dMs_depth l
  refine shaped_mk ?_ ?_
  · simp only [dMs, PyData.canLay0]
    exact dMs_lay l
  · simp only [dMs, PyData.depth]
    omega
theorem dS_shaped (S : S2) : SeqAt.shaped (dS S) = true := by
  have h1 := dIs_depth S.1
  have h2 := dIs_depth S.2
  have h3 := dIs_lay S.1
  have h4 := dIs_lay S.2
  refine shaped_mk ?_ ?_
  · simp only [dS, PyData.canLay0, PyData.canLayAll0, h3, h4, Bool.and_true]
  · simp only [dS, PyData.depth, PyData.depthAll]
    omega
theorem dO_shaped {o : (Nat × String) ⊕ S2} (h : ∀ i w, o = .inl (i, w) → w = "away" ∨ w = "barred") : SeqAt.shaped (dO o) = true := by
  match o, h with
  | .inl (i, w), h =>
    have hw : PyData.strOk (Str.ofString w) = true := by
      rcases h i w rfl with rfl | rfl
      · decide +kernel
      · decide +kernel
    refine shaped_mk ?_ ?_
    · simp only [dO, PyData.canLay0, PyData.canLayAll0, hw, Bool.and_true]
    · simp only [dO, PyData.depth, PyData.depthAll]
      omega
  | .inr S, _ => exact dS_shaped S
theorem why_word {ds S m w} (h : why ds S m = some w) : w = "away" ∨ w = "barred" := by
  unfold why at h
  split at h
  · exact .inl (Option.some.inj h).symm
  · split at h
    · exact .inr (Option.some.inj h).symm
    · cases h
theorem runs_word {ds : List (Nat × Nat)} : ∀ {ms : List Mv} {k : Nat} {S : S2} {i : Nat} {w : String}, runs ds k S ms = .inl (i, w) → w = "away" ∨ w = "barred"
  | [], k, S, i, w, h => by
    rw [runs] at h
    cases h
  | m :: r, k, S, i, w, h => by
    rw [runs] at h
    split at h
    · rename_i w' e
      cases h
      exact why_word e
    · exact runs_word h
theorem d_refl {d : PyData} (h : SeqAt.shaped d = true) : PyData.eqv d d = true := SeqAt.eqv_refl _ (SeqAt.canLay_of_shaped h)
section
variable {K : PySem.W.Frag} {H : Hp} {a q t : Addr} {S : S2} {l : List Mv} {ts : List Addr} {m : Mv}
theorem dp_is : ∀ l : List Nat, DpAll K H (nv l) (dIs l)
  | [] => .nil
  | x :: r => .cons (.int _) (dp_is r)
theorem dp_S (h : StateAt K H a S) : Dp K H (.ref a) (dS S) := by
  obtain ⟨r, b, h1, h2, h3⟩ := h
  exact .tup h1 (.cons (.tup h2 (dp_is _)) (.cons (.tup h3 (dp_is _)) .nil))
theorem dp_M (h : H t = some (.tup (tI m))) : Dp K H (.ref t) (dM m) := .tup (SqT.of h) (.cons (.int _) (.cons (.int _) (.cons (.int _) .nil)))
theorem dp_Ms : ∀ (ts : List Addr) (l : List Mv), TL H ts l → DpAll K H (ts.map V.ref) (l.map dM)
  | [], [], _ => .nil
  | [], m :: l, h => by have := h.1; simp at this
  | t :: ts, [], h => by have := h.1; simp at this
  | t :: ts, m :: l, h => .cons (dp_M (h.2 0 t m rfl rfl)) (dp_Ms ts l ⟨by have := h.1; simpa using this, fun i t' m' x y => h.2 (i + 1) t' m' x y⟩)
theorem dp_Tris (h : TrisAt H q l) : Dp K H (.ref q) (dMs l) := by
  obtain ⟨ts, h1, h2⟩ := h
  exact .lst (SqL.of h1) (dp_Ms ts l h2)
end
end K5

namespace K5
open PySem PySem.Spec PyProof.Rows L2
theorem nv_some {L : List Nat} {k : Nat} {x : V} (h : (nv L)[k]? = some x) : ∃ v, L[k]? = some v ∧ x = .int (v : Int) := by
  unfold nv at h
  rw [List.getElem?_map] at h
  cases e : L[k]? with
  | none => rw [e] at h; cases h
  | some v => rw [e] at h; exact ⟨v, rfl, (Option.some.inj h).symm⟩
/-- the key of a pair of rooms -/
def spSt (K : PySem.W.Frag) : Sp := fun vs H Q _ => ∃ (a s : Addr) (ds : List (Nat × Nat)) (n : Nat) (S : S2), vs = [.ref a, .ref s] ∧ HouseAt K H a ds ∧ Tree n ds ∧ n ≤ 1000 ∧ StateAt K H s S ∧ StOk n ds S ∧ ∀ H', Same H H' → Q .non H'
def spShape (K : PySem.W.Frag) : Sp := fun vs H Q _ => ∃ (a s : Addr) (ds : List (Nat × Nat)) (n : Nat) (S : S2), vs = [.ref a, .ref s] ∧ HouseAt K H a ds ∧ StateAt K H s S ∧ StOk n ds S ∧ Q (.bl true) H
section
variable {P : Program} {w : World} {K : PySem.W.Frag}
      {mg : Str → Option Value} {base : Heap}
theorem ok_has_state_shape (T : Bl mg) (D : Def K mg "has_state_shape" s_has_state_shape) : Cal P w K mg base "has_state_shape" ["house", "value"] 1 (spShape K) := by
  refine D.ok sc_has_state_shape (fun _ _ _ _ _ _ us hl => match us, hl with | [_, _], _ => rfl) (fun vs H Q E h => ?_) (fun f cdv A outer s H vs Q E hr h => ?_)
  · obtain ⟨a, s, ds, n, S, rfl, _⟩ := h
    rfl
  obtain ⟨a, s, ds, n, S, rfl, ⟨rs, hrs, hlen, hds⟩, ⟨r, b, h1, h2, h3⟩, ok, q⟩ := h
  refine ⟨_, (pss_cons (ps_if (PW.pt (pw_or (pt_not (pt_val (pe_callB call_isi (by rfl) T.isinstance (by decide +kernel) (pa_cons (pv 1) (pa_cons (pe_bltn (v := .ty "tuple") (u := .type "tuple") (by rfl) T.tuple (by decide +kernel) rfl) pa_nil))))) (pw_or1 (pt_cmpR op_ne (pe_callB call_len_seq (by rfl) T.len PySem.boot_len (pa_cons (pv 1) pa_nil)) pe_int (nomark _))))) (pss_one (ps_ret pe_bl)) pss_nil)
    (pss_cons (ps_asg (pv 1) (pg_tup (n := 2) rfl (pgs_cons (pg_name (i := 2) sc_has_state_shape.nd rfl (.inl rfl)) (pgs_cons (pg_name (i := 3) sc_has_state_shape.nd rfl (.inl rfl)) pgs_nil))))
    (pss_cons (ps_if (PW.pt (pw_or (pt_not (pt_val (pe_callB call_isi (by rfl) T.isinstance (by decide +kernel) (pa_cons (pv 2) (pa_cons (pe_bltn (v := .ty "tuple") (u := .type "tuple") (by rfl) T.tuple (by decide +kernel) rfl) pa_nil))))) (pw_or1 (pt_not (pt_val (pe_callB call_isi (by rfl) T.isinstance (by decide +kernel) (pa_cons (pv 3) (pa_cons (pe_bltn (v := .ty "tuple") (u := .type "tuple") (by rfl) T.tuple (by decide +kernel) rfl) pa_nil)))))))) (pss_one (ps_ret pe_bl)) pss_nil)
    (pss_one (ps_ret (pe_and (pe_cmpR op_ge (pe_callB call_len_seq (by rfl) T.len PySem.boot_len (pa_cons (pv 2) pa_nil)) pe_int (nomark _)) (pe_one (pe_cmpR op_eq (pe_callB call_len_seq (by rfl) T.len PySem.boot_len (pa_cons (pv 3) pa_nil)) (pe_callB call_len_seq (by rfl) T.len PySem.boot_len (pa_cons (pv 0) pa_nil)) (nomark _))))))))), ?_⟩
  refine ⟨_, rfl, _, _, _, _, _, rfl, .ty _, ty_tup h1, kit_ty (r := true) (by decide +kernel), _, rfl, iteF ?_⟩
  refine ⟨_, rfl, _, _, rfl, .inr h1, rfl, _, rfl, iteF ?_⟩
  refine ⟨_, rfl, _, _, rfl, h1, rfl, _, _, rfl, _, _, rfl, rfl, ?_⟩
  refine ⟨_, rfl, _, _, _, _, _, rfl, .ty _, ty_tup h2, kit_ty (r := true) (by decide +kernel), _, rfl, iteF ?_⟩
  refine ⟨_, rfl, _, _, _, _, _, rfl, .ty _, ty_tup h3, kit_ty (r := true) (by decide +kernel), _, rfl, iteF ?_⟩
  have o1 := ok.one
  refine ⟨_, rfl, _, _, rfl, .inr h2, _, _, rfl, rfl, _, rfl, ?_⟩
  rw [decide_eq_true (show (1 : Int) ≤ ((nv S.1).length : Nat) by rw [nv_len]; omega)]
  refine iteT ⟨_, rfl, _, _, rfl, .inr h3, _, rfl, _, _, rfl, .inr hrs, rfl, ?_⟩
  rw [decide_eq_true (show V.int ((nv S.2).length : Nat) = V.int ((rs.map V.ref).length : Nat) by rw [nv_len, List.length_map, hlen, ok.doors])]
  exact q
theorem ok_check_state (T : Bl mg) (D : Def K mg "check_state" s_check_state) (C_need_house : Cal P w K mg base "need_house" ["house"] 5 (spRing K)) (C_has_state_shape : Cal P w K mg base "has_state_shape" ["house", "value"] 1 (spShape K))
    (C_is_index : Cal P w K mg base "is_index" ["value", "count"] 2 spIndex) : Cal P w K mg base "check_state" ["house", "value"] 6 (spSt K) := by
  refine D.ok sc_check_state (fun _ _ _ _ _ _ us hl => match us, hl with | [_, _], _ => rfl) (fun vs H Q E h => ?_) (fun f cdv A outer s H vs Q E hr h => ?_)
  · obtain ⟨a, s, ds, n, S, rfl, _⟩ := h
    rfl
  obtain ⟨a, s, ds, n, S, rfl, hH, tree, hn, st, ok, q⟩ := h
  obtain ⟨rs, hrs, hlen, hds⟩ := id hH
  obtain ⟨r, b, h1, h2, h3⟩ := id st
  have hdn := tree.len
  obtain ⟨f_need_house, fd_need_house, g_need_house, k_need_house, b_need_house, G_need_house⟩ := C_need_house
  obtain ⟨f_has_state_shape, fd_has_state_shape, g_has_state_shape, k_has_state_shape, b_has_state_shape, G_has_state_shape⟩ := C_has_state_shape
  obtain ⟨f_is_index, fd_is_index, g_is_index, k_is_index, b_is_index, G_is_index⟩ := C_is_index
  refine ⟨_, (pss_cons (ps_expr (pe_call G_need_house (hr.mono (by decide)) (by rfl) g_need_house k_need_house b_need_house .nil pass0 (pa_cons (pv 0) pa_nil)))
    (pss_cons (ps_if (pt_not (pt_val (pe_call G_has_state_shape (hr.mono (by decide)) (by rfl) g_has_state_shape k_has_state_shape b_has_state_shape .nil pass0 (pa_cons (pv 0) (pa_cons (pv 1) pa_nil))))) (pss_one (ps_ret (pe_tup (pa_cons pe_str pa_nil)))) pss_nil)
    (pss_cons (ps_asg (pv 1) (pg_tup (n := 2) rfl (pgs_cons (pg_name (i := 2) sc_check_state.nd rfl (.inl rfl)) (pgs_cons (pg_name (i := 3) sc_check_state.nd rfl (.inl rfl)) pgs_nil))))
    (pss_cons (ps_for PassesOwn.never rfl (pi_enumT (by rfl) T.enumerate (pa_cons (pv 2) pa_nil)) (pg_tup (n := 2) rfl (pgs_cons (pg_name (i := 4) sc_check_state.nd rfl (.inl rfl)) (pgs_cons (pg_name (i := 5) sc_check_state.nd rfl (.inl rfl)) pgs_nil)))
    (pss_one (ps_if (pt_not (pt_val (pe_call G_is_index (hr.mono (by decide)) (by rfl) g_is_index k_is_index b_is_index .nil pass0 (pa_cons (pv 5) (pa_cons (pe_op op_add (pe_callB call_len_seq (by rfl) T.len PySem.boot_len (pa_cons (pv 0) pa_nil)) pe_int) pa_nil))))) (pss_one (ps_ret (pe_tup (pa_cons pe_str (pa_cons (pv 4) pa_nil))))) pss_nil)))
    (pss_cons (ps_for PassesOwn.never rfl (pi_enumT (by rfl) T.enumerate (pa_cons (pv 3) pa_nil)) (pg_tup (n := 2) rfl (pgs_cons (pg_name (i := 6) sc_check_state.nd rfl (.inl rfl)) (pgs_cons (pg_name (i := 4) sc_check_state.nd rfl (.inl rfl)) pgs_nil)))
    (pss_one (ps_if (pt_not (pt_val (pe_call G_is_index (hr.mono (by decide)) (by rfl) g_is_index k_is_index b_is_index .nil pass0 (pa_cons (pv 4) (pa_cons (pe_callB call_len_seq (by rfl) T.len PySem.boot_len (pa_cons (pv 2) pa_nil)) pa_nil))))) (pss_one (ps_ret (pe_tup (pa_cons pe_str (pa_cons (pv 6) pa_nil))))) pss_nil)))
    (pss_one (ps_ret pe_non))))))), ?_⟩
  refine ⟨_, rfl, a, ds, n, rfl, hH, tree, hn, fun H1 s1 => ?_⟩
  refine ⟨_, rfl, _, rfl, a, s, ds, n, S, rfl, hH.same s1, st.same s1, ok, _, rfl, iteF ?_⟩
  refine ⟨_, rfl, _, _, rfl, s1.tup h1, rfl, _, _, rfl, _, _, rfl, rfl, ?_⟩
  refine ⟨_, rfl, r, _, rfl, s1.tup h2, ?_⟩
  refine for_it (walk_enumT (K := K) (a := r) (xs := nv S.1)) (fun k σ H2 => ∃ y4 y5 y6, σ = [some (.ref a), some (.ref s), some (.ref r), some (.ref b), y4, y5, y6] ∧ Same H H2)
    ⟨_, _, _, rfl, s1⟩ (fun i σ H2 _ ⟨_, _, _, _, sm⟩ => sm.tup h2) ?_ ?_
  · rintro k x σ H2 H3 hk ⟨y4, y5, y6, rfl, sm⟩ ⟨t, x1, x2, rfl, nt, rfl, ex1, ex2⟩
    cases ex1
    obtain ⟨v, hv, rfl⟩ := nv_some ex2
    have sm3 := sm.trans (Same.upd (o := .tup [.int (k : Nat), .int (v : Int)]) nt)
    have lv := ok.rooms v (List.mem_of_getElem? hv)
    refine ⟨t, _, rfl, SqT.of upd_same, rfl, _, _, rfl, _, _, rfl, rfl, ?_⟩
    refine ⟨_, rfl, _, rfl, _, _, rfl, .inr (sm3.tup hrs), _, _, rfl, rfl, _, _, rfl, _, rfl, ?_⟩
    rw [decide_eq_true (by rw [List.length_map, hlen]; omega)]
    exact iteF ⟨_, _, _, rfl, sm3⟩
  · rintro σ H2 ⟨y4, y5, y6, rfl, sm⟩
    refine ⟨_, rfl, b, _, rfl, sm.tup h3, ?_⟩
    refine for_it (walk_enumT (K := K) (a := b) (xs := nv S.2)) (fun k σ H2 => ∃ y4 y5 y6, σ = [some (.ref a), some (.ref s), some (.ref r), some (.ref b), y4, y5, y6] ∧ Same H H2)
      ⟨_, _, _, rfl, sm⟩ (fun i σ H2 _ ⟨_, _, _, _, sm⟩ => sm.tup h3) ?_ ?_
    · rintro k x σ H2 H3 hk ⟨y4, y5, y6, rfl, sm⟩ ⟨t, x1, x2, rfl, nt, rfl, ex1, ex2⟩
      cases ex1
      obtain ⟨v, hv, rfl⟩ := nv_some ex2
      have sm3 := sm.trans (Same.upd (o := .tup [.int (k : Nat), .int (v : Int)]) nt)
      have lv := ok.bars v (List.mem_of_getElem? hv)
      refine ⟨t, _, rfl, SqT.of upd_same, rfl, _, _, rfl, _, _, rfl, rfl, ?_⟩
      refine ⟨_, rfl, _, rfl, _, _, rfl, .inr (sm3.tup h2), _, _, rfl, _, rfl, ?_⟩
      rw [decide_eq_true (by rw [nv_len]; omega)]
      exact iteF ⟨_, _, _, rfl, sm3⟩
    · rintro σ H2 ⟨y4, y5, y6, rfl, sm⟩
      exact q H2 sm
theorem ok_need_state (T : Bl mg) (D : Def K mg "need_state" s_need_state) (C_check_state : Cal P w K mg base "check_state" ["house", "value"] 6 (spSt K)) : Cal P w K mg base "need_state" ["house", "state"] 7 (spSt K) := by
  refine D.ok sc_need_state (fun _ _ _ _ _ _ us hl => match us, hl with | [_, _], _ => rfl) (fun vs H Q E h => ?_) (fun f cdv A outer s H vs Q E hr h => ?_)
  · obtain ⟨a, s, ds, n, S, rfl, _⟩ := h
    rfl
  obtain ⟨a, s, ds, n, S, rfl, hH, tree, hn, st, ok, q⟩ := h
  obtain ⟨f_check_state, fd_check_state, g_check_state, k_check_state, b_check_state, G_check_state⟩ := C_check_state
  refine ⟨_, (pss_cons (ps_set (i := 2) sc_need_state.nd rfl (.inl rfl) (pe_call G_check_state (hr.mono (by decide)) (by rfl) g_check_state k_check_state b_check_state .nil pass0 (pa_cons (pv 0) (pa_cons (pv 1) pa_nil))))
    (pss_one (ps_if (pt_cmpR op_notN (pv 2) pe_non (nomark _)) pss_never pss_nil))), ?_⟩
  refine ⟨_, rfl, _, rfl, a, s, ds, n, S, rfl, hH, tree, hn, st, ok, fun H2 sm2 => ⟨_, rfl, rfl, _, rfl, iteF ?_⟩⟩
  exact q H2 sm2
end
end K5

namespace K5
open PySem PySem.Spec PyProof.Rows L2
/-- the moves found ahead of person j at door k -/
structure PM (ds : List (Nat × Nat)) (S : S2) (k j : Nat) (l : List Mv) : Prop where
  mem : ∀ m, m ∈ l ↔ ∃ d, (d < k ∨ (d = k ∧ m.1 < j)) ∧ Joins ds d m.2.1 m.2.2 ∧ S.1[m.1]? = some m.2.1 ∧ S.2[d]? ≠ some m.1
  nd : l.Nodup
  len : l.length ≤ 4 * k + j
theorem PM.nil {ds S} : PM ds S 0 0 [] := ⟨fun m => ⟨fun h => (List.not_mem_nil h).elim, fun h => by
  obtain ⟨d, h, _⟩ := h
  omega⟩, List.nodup_nil, Nat.zero_le _⟩
theorem PM.add {n ds S k j l x y} (T : Tree n ds) (h : PM ds S k j l) (jo : Joins ds k x y) (hv : S.1[j]? = some x) (hb : S.2[k]? ≠ some j) : PM ds S k (j + 1) (l ++ [(j, x, y)]) := by
  refine ⟨fun m => ?_, ?_, by rw [List.length_append, List.length_singleton]; have := h.len; omega⟩
  · rw [List.mem_append, List.mem_singleton, h.mem m]
    constructor
    · rintro (⟨d, q, r⟩ | rfl)
      · exact ⟨d, by omega, r⟩
      · exact ⟨k, .inr ⟨rfl, Nat.lt_succ_self _⟩, jo, hv, hb⟩
    · rintro ⟨d, q, r1, r2, r3⟩
      by_cases c : d = k ∧ m.1 = j
      · obtain ⟨rfl, e⟩ := c
        obtain ⟨p, s, z⟩ := m
        simp only at e r1 r2 r3
        subst e
        rw [hv] at r2
        cases r2
        have ne := (jo.lt T).2.2.2
        rw [← jo.other r1 ne]
        exact .inr rfl
      · exact .inl ⟨d, by omega, r1, r2, r3⟩
  · refine List.nodup_append.mpr ⟨h.nd, by simp, fun a ha b hb' => ?_⟩
    rintro rfl
    rw [List.mem_singleton] at hb'
    subst hb'
    obtain ⟨d, q, r, _⟩ := (h.mem _).mp ha
    have := T.one_door r jo
    simp only at q
    omega
theorem PM.skip {ds S k j l} (h : PM ds S k j l) (hv : ∀ x y, Joins ds k x y → S.1[j]? = some x → S.2[k]? = some j) : PM ds S k (j + 1) l := by
  refine ⟨fun m => ?_, h.nd, by have := h.len; omega⟩
  rw [h.mem m]
  constructor
  · rintro ⟨d, q, r⟩
    exact ⟨d, by omega, r⟩
  · rintro ⟨d, q, r1, r2, r3⟩
    by_cases c : d = k ∧ m.1 = j
    · obtain ⟨rfl, rfl⟩ := c
      exact absurd (hv _ _ r1 r2) r3
    · exact ⟨d, by omega, r1, r2, r3⟩
theorem PM.next {ds S k l} (h : PM ds S k S.1.length l) (few : S.1.length ≤ 4) : PM ds S (k + 1) 0 l := by
  refine ⟨fun m => ?_, h.nd, by have := h.len; omega⟩
  rw [h.mem m]
  constructor
  · rintro ⟨d, q, r⟩
    exact ⟨d, .inl (by omega), r⟩
  · rintro ⟨d, q, r1, r2, r3⟩
    have := get_lt r2
    exact ⟨d, by omega, r1, r2, r3⟩
theorem PM.done {ds S l} (h : PM ds S ds.length 0 l) (m : Mv) : m ∈ l ↔ Can ds S m := by
  rw [h.mem m]
  constructor
  · rintro ⟨d, q, r1, r2, r3⟩
    exact ⟨get_lt r2, r2, d, r1, r3⟩
  · rintro ⟨h1, h2, d, r1, r3⟩
    exact ⟨d, .inl (joins_lt r1), r1, h2, r3⟩
theorem Can.sm {n ds S m} (T : Tree n ds) (hn : n ≤ 15) (o : StOk n ds S) (h : Can ds S m) : Sm m := by
  obtain ⟨h1, h2, d, j, h3⟩ := h
  obtain ⟨a, b, _⟩ := j.lt T
  have := o.few
  exact ⟨by omega, by omega, by omega⟩
def spPoss (K : PySem.W.Frag) : Sp := fun vs H Q _ => ∃ (a s : Addr) (ds : List (Nat × Nat)) (n : Nat) (S : S2), vs = [.ref a, .ref s] ∧ HouseAt K H a ds ∧ Tree n ds ∧ n ≤ 15 ∧ StateAt K H s S ∧ StOk n ds S ∧
  ∀ (H' : Hp) (q : Addr) (l : List Mv), Same H H' → H q = none → TrisAt H' q l → Canon l (Can ds S) → Q (.ref q) H'
section
variable {P : Program} {w : World} {K : PySem.W.Frag}
      {mg : Str → Option Value} {base : Heap}
end
end K5

namespace K5
open PySem PySem.Spec PyProof.Rows L2
/-- two tuples joined, whatever they hold -/
theorem catA_of {K : PySem.W.Frag} {H : Hp} {a b : Addr} {xs ys : List V} {Q : VK} (h1 : SqT K H a xs) (h2 : SqT K H b ys) (hl : xs.length + ys.length ≤ sizeLine) (q : ∀ (H' : Hp) (p : Addr), Same H H' → SqT K H' p (xs ++ ys) → Q (.ref p) H') :
    rCatA K (.ref a) (.ref b) H Q := by
  refine ⟨a, b, xs, ys, rfl, rfl, h1, h2, hl, fun e => ?_, fun _ e => ?_, fun _ _ p np => q _ p (Same.upd np) (SqT.of upd_same)⟩
  · refine q H b (Same.refl _) ?_
    rw [e, List.nil_append]
    exact h2
  · refine q H a (Same.refl _) ?_
    rw [e, List.append_nil]
    exact h1
theorem nv_app (a b : List Nat) : nv a ++ nv b = nv (a ++ b) := by
  unfold nv
  rw [List.map_append]
theorem set_cut {α : Type} : ∀ (l : List α) (k : Nat) (x : α), k < l.length → l.take k ++ [x] ++ l.drop (k + 1) = l.set k x
  | [], k, x, h => by simp at h
  | a :: r, 0, x, h => rfl
  | a :: r, k + 1, x, h => by
    have := set_cut r k x (by simpa using h)
    show a :: (r.take k ++ [x] ++ r.drop (k + 1)) = a :: r.set k x
    rw [this]
theorem nv_cut (L : List Nat) (k x : Nat) (h : k < L.length) : nv (L.take k) ++ [V.int (x : Int)] ++ nv (L.drop (k + 1)) = nv (L.set k x) := by
  rw [← set_cut L k x h, ← nv_app, ← nv_app]
  rfl
theorem cut_to {L : List Nat} {k : Nat} (h : k < L.length) : cutV (nv L) none (some (k : Int)) = nv (L.take k) ∧ ¬ (HT.sIx (nv L).length 0 none = 0 ∧ HT.sIx (nv L).length (nv L).length (some (k : Int)) = (nv L).length) := by
  unfold cutV
  rw [HT.sIx_none, HT.sIx_nat, nv_len, Nat.min_eq_left (Nat.le_of_lt h)]
  refine ⟨?_, fun z => by omega⟩
  unfold nv
  rw [List.drop_zero, Nat.sub_zero, List.map_take]
theorem cut_from {L : List Nat} {k : Nat} (h : k < L.length) : cutV (nv L) (some ((k : Int) + 1)) none = nv (L.drop (k + 1)) ∧ ¬ (HT.sIx (nv L).length 0 (some ((k : Int) + 1)) = 0 ∧ HT.sIx (nv L).length (nv L).length none = (nv L).length) := by
  unfold cutV
  rw [show (k : Int) + 1 = ((k + 1 : Nat) : Int) by omega, HT.sIx_none, HT.sIx_nat, nv_len, Nat.min_eq_left h]
  refine ⟨?_, fun z => by omega⟩
  unfold nv
  rw [← List.map_drop, List.take_of_length_le]
  rw [List.length_map, List.length_drop]
  exact Nat.le_refl _
def spRState (K : PySem.W.Frag) : Sp := fun vs H Q _ => ∃ (g a : Addr) (b p n : Nat) (ds : List (Nat × Nat)), vs = [.ref g, .ref a, .int (p : Int)] ∧ GenAt H g b ∧ HouseAt K H a ds ∧ Tree n ds ∧ n ≤ 15 ∧ 1 ≤ p ∧ p ≤ 4 ∧ b < 2 ^ 59 ∧
  ∀ (H' : Hp) (s : Addr) (S : S2), But g H H' → GenAt H' g (b + 100) → StateAt K H' s S → StOk n ds S → S.1.length = p → Q (.ref s) H'
def spMoved (K : PySem.W.Frag) : Sp := fun vs H Q _ => ∃ (a s t : Addr) (n : Nat) (ds : List (Nat × Nat)) (S : S2) (m : Mv), vs = [.ref a, .ref s, .ref t] ∧ HouseAt K H a ds ∧ Tree n ds ∧ n ≤ 1000 ∧ StateAt K H s S ∧ StOk n ds S ∧ H t = some (.tup (tI m)) ∧ VM ds S.1.length m ∧
  (∀ w, why ds S m = some w → ∀ (H' : Hp) (q : Addr), Same H H' → H' q = some (.lst [.str (Str.ofString w), .ref s]) → Q (.ref q) H') ∧
  (why ds S m = none → ∀ (H' : Hp) (q s' : Addr), Same H H' → H' q = some (.lst [.str "done", .ref s']) → StateAt K H' s' (nxt ds S m) → Q (.ref q) H')
section
variable {P : Program} {w : World} {K : PySem.W.Frag}
      {mg : Str → Option Value} {base : Heap}
theorem ok_random_state (T : Bl mg) (D : Def K mg "_law_random_state" s_l_random_state) (C_l_random : Cal P w K mg base "_law_random" ["_law_generator_here", "_law_bound"] 2 spRand) : Cal P w K mg base "_law_random_state" ["_law_generator_here", "_law_doors", "_law_people"] 3 (spRState K) := by
  refine D.ok sc_l_random_state (fun _ _ _ _ _ _ us hl => match us, hl with | [_, _, _], _ => rfl) (fun vs H Q E h => ?_) (fun f cdv A outer s H vs Q E hr h => ?_)
  · obtain ⟨g, a, b, p, n, ds, rfl, _⟩ := h
    rfl
  obtain ⟨g, a, b, p, n, ds, rfl, hg, hH, tree, hn, hp1, hp4, hb, q⟩ := h
  obtain ⟨rs, hrs, hlen, hds⟩ := id hH
  have hdn := tree.len
  have hn1 : 1 ≤ n := by omega
  obtain ⟨f_l_random, fd_l_random, g_l_random, k_l_random, b_l_random, G_l_random⟩ := C_l_random
  refine ⟨_, (pss_cons (ps_set (i := 3) sc_l_random_state.nd rfl (.inl rfl) (pe_op op_add (pe_callB call_len_seq (by rfl) T.len PySem.boot_len (pa_cons (pv 1) pa_nil)) pe_int))
    (pss_cons (ps_set (i := 4) sc_l_random_state.nd rfl (.inr rfl) (pe_ix ix_list (pe_lst (pa_cons (pv 3) (pa_cons (pv 3) (pa_cons (pe_op op_add pe_int (pe_call G_l_random (hr.mono (by decide)) (by rfl) g_l_random k_l_random b_l_random .nil pass0 (pa_cons (pv 0) (pa_cons (pv 3) pa_nil)))) pa_nil)))) (pe_call G_l_random (hr.mono (by decide)) (by rfl) g_l_random k_l_random b_l_random .nil pass0 (pa_cons (pv 0) (pa_cons pe_int pa_nil))) (fun _ _ => rfl)))
    (pss_cons (ps_setLc (i := 5) (own := [("_law_person", 6)]) (g := gName 6)  rfl sc_l_random_state.nd rfl rfl (sw_true rfl rfl rfl (by decide +kernel)) (pi_range1 rfl T.range (pa_cons (pv 2) pa_nil)) (blkOk_by (N := N_l_random_state) (sc := defScope s_l_random_state) (own := [("_law_person", 6)]) (by decide +kernel)) (fun _ _ _ _ _ => (pg_name (i := 6) sc_l_random_state.nd rfl (.inl rfl) (.inr rfl))) (fun _ _ _ _ _ => pts_nil) (fun _ _ _ _ _ => (pe_call G_l_random (hr.mono (by decide)) (by rfl) g_l_random k_l_random b_l_random .nil pass0 (pa_cons (pv 0) (pa_cons (pv 4) pa_nil)))))
    (pss_one (ps_ret (pe_tup (pa_cons (pe_callTy call_tuple_of (by rfl) T.tuple (by decide +kernel) (pa_cons (pv 5) pa_nil)) (pa_cons (pe_callTy call_tuple_of (by rfl) T.tuple (by decide +kernel) (pa_cons (pe_lc (own := [("_law_door", 7)]) (g := gName 7)  rfl sc_l_random_state.nd (pi_tup (pv 1)) (blkOk_by (N := N_l_random_state) (sc := defScope s_l_random_state) (own := [("_law_door", 7)]) (by decide +kernel)) (fun _ _ _ _ _ => (pg_name (i := 7) sc_l_random_state.nd rfl (.inl rfl) (.inr rfl))) (fun _ _ _ _ _ => pts_nil) (fun _ _ _ _ _ => (pe_call G_l_random (hr.mono (by decide)) (by rfl) g_l_random k_l_random b_l_random .nil pass0 (pa_cons (pv 0) (pa_cons (pv 2) pa_nil))))) pa_nil)) pa_nil)))))))), ?_⟩
  have en : (((rs.map V.ref).length : Nat) : Int) + 1 = ((n : Nat) : Int) := by
    rw [List.length_map, hlen]
    omega
  have hgl := hg.lst
  obtain ⟨gx, hgx⟩ := hgl
  refine ⟨_, rfl, _, _, rfl, .inr hrs, _, _, rfl, rfl, ?_⟩
  refine ⟨_, rfl, _, rfl, _, rfl, _, rfl, g, b, n, congrArg (fun z => [V.ref g, V.int z]) en, hg, by omega, by omega, by omega, fun H1 v bt1 g1 hv => ⟨_, _, rfl, rfl, by show 3 ≤ sizeLine; decide, fun pl npl => ?_⟩⟩
  have nplg : pl ≠ g := g1.ne npl
  refine ⟨_, rfl, g, b + 1, 3, rfl, g1.at nplg, by decide, by decide, by omega, fun H2 u bt2 g2 hu => ?_⟩
  obtain ⟨sp, hsp, sp0, sp1⟩ : ∃ sp : Nat, ([V.int ((((rs.map V.ref).length : Nat) : Int) + 1), V.int ((((rs.map V.ref).length : Nat) : Int) + 1), V.int (1 + (v : Int))] : List V)[u]? = some (.int (sp : Int)) ∧ 1 ≤ sp ∧ sp ≤ n := by
    match u, hu with
    | 0, _ => exact ⟨n, congrArg (fun z => some (V.int z)) en, hn1, Nat.le_refl _⟩
    | 1, _ => exact ⟨n, congrArg (fun z => some (V.int z)) en, hn1, Nat.le_refl _⟩
    | 2, _ => exact ⟨1 + v, congrArg (fun z => some (V.int z)) (by omega), by omega, by omega⟩
  refine ⟨pl, _, _, _, rfl, rfl, SqL.of (bt2 _ _ nplg upd_same), atI_nat hsp, ?_⟩
  have bt02 : But g H H2 := (bt1.at (bt1.free nplg npl) _).trans bt2
  refine ⟨_, rfl, (p : Int), rfl, by omega, by omega, fun pd npd => ?_⟩
  have npdg : pd ≠ g := g2.ne npd
  have npd0 := bt02.free npdg npd
  refine lc_range (lo := 0) (n := p) (fun i H3 => ∃ L : List Nat, But g H H3 ∧ GenAt H3 g (b + 2 + i) ∧ H3 pd = some (.lst (nv L)) ∧ L.length = i ∧ ∀ x ∈ L, x < sp) ?_ ?_ ?_
  · exact ⟨[], bt02.at npd0 _, g2.at npdg, upd_same, rfl, fun x hx => (List.not_mem_nil hx).elim⟩
  · rintro i H3 hi ⟨L, bt3, g3, hL, hl, lt⟩
    refine ⟨rfl, lcYes ?_⟩
    refine ⟨_, rfl, _, rfl, g, b + 2 + i, sp, rfl, g3, by omega, by omega, by omega, fun H4 z bt4 g4 hz => ?_⟩
    refine ⟨_, bt4 _ _ npdg hL, by rw [nv_len]; exact small1000 (by omega), L ++ [z], (bt3.trans bt4).at npd0 _, g4.at npdg, by rw [upd_same, nv_snoc], by simp [hl], fun x hx => ?_⟩
    rcases List.mem_append.mp hx with hx | hx
    · exact lt x hx
    · rw [List.mem_singleton] at hx
      rw [hx]
      exact hz
  · rintro H3 ⟨L, bt3, g3, hL, hl, lt⟩
    refine ⟨_, rfl, pd, _, rfl, .inl ⟨SqL.of hL, fun t1 nt1 => ?_⟩⟩
    have nt1g : t1 ≠ g := g3.ne nt1
    have btA := bt3.at (bt3.free nt1g nt1) (.tup (nv L))
    have gA := g3.at (o := .tup (nv L)) nt1g
    have hA : (upd H3 t1 (.tup (nv L))) t1 = some (.tup (nv L)) := upd_same
    generalize upd H3 t1 (.tup (nv L)) = H4 at btA gA hA
    refine ⟨_, rfl, a, rfl, ⟨_, btA.tup hgx hrs⟩, fun pe npe => ?_⟩
    have npeg : pe ≠ g := gA.ne npe
    have npe0 := btA.free npeg npe
    have n1e : t1 ≠ pe := ne_of_none hA npe
    refine lc_it (walk_tup (K := K) (a := a) (xs := rs.map V.ref)) (fun i H5 => ∃ M : List Nat, But g H4 H5 ∧ GenAt H5 g (b + 6 + i) ∧ H5 pe = some (.lst (nv M)) ∧ M.length = i ∧ ∀ x ∈ M, x < p)
      ⟨[], (Same.refl _).but.at npe _, (gA.at npeg).mono (by omega), upd_same, rfl, fun x hx => (List.not_mem_nil hx).elim⟩ (fun i H5 _ ⟨_, bt5, _⟩ => (btA.trans bt5).tup hgx hrs) ?_ ?_
    · rintro i x H5 H6 hi ⟨M, bt5, g5, hM, hl5, lt5⟩ ⟨rfl, ex⟩
      have hi' : i < ds.length := by
        rw [List.length_map, hlen] at hi
        exact hi
      refine ⟨rfl, lcYes ?_⟩
      refine ⟨_, rfl, _, rfl, g, b + 6 + i, p, rfl, g5, by omega, by omega, by omega, fun H7 z bt7 g7 hz => ?_⟩
      refine ⟨_, bt7 _ _ npeg hM, by rw [nv_len]; exact small1000 (by omega), M ++ [z], (bt5.trans bt7).at npe _, g7.at npeg, by rw [upd_same, nv_snoc], by simp [hl5], fun x hx => ?_⟩
      rcases List.mem_append.mp hx with hx | hx
      · exact lt5 x hx
      · rw [List.mem_singleton] at hx
        rw [hx]
        exact hz
    · rintro H5 ⟨M, bt5, g5, hM, hl5, lt5⟩
      rw [List.length_map, hlen] at hl5 g5
      refine ⟨pe, _, rfl, .inl ⟨SqL.of hM, fun t2 nt2 => ?_⟩⟩
      have nt2g : t2 ≠ g := g5.ne nt2
      refine ⟨by show 2 ≤ sizeLine; decide, fun t3 nt3 => ?_⟩
      have n3g : t3 ≠ g := (g5.at nt2g).ne nt3
      have sB := Same.upd (o := .tup (nv M)) nt2
      have sC := Same.upd (o := .tup [.ref t1, .ref t2]) nt3
      have btE := ((btA.trans bt5).at ((btA.trans bt5).free nt2g nt2) (.tup (nv M)))
      have h15 := bt5 _ _ (gA.lst.elim fun ys hy => ne_lt hy hA) hA
      refine q _ t3 (L, M) (btE.at (btE.free n3g nt3) _) (((g5.at nt2g).at n3g).mono (by omega)) ⟨t1, t2, SqT.of upd_same, SqT.of (sC _ _ (sB _ _ h15)), SqT.of (sC _ _ upd_same)⟩ ⟨?_, ?_, ?_, hl5, ?_⟩ hl
      · show 1 ≤ L.length
        omega
      · show L.length ≤ 4
        omega
      · intro x hx
        have := lt x hx
        omega
      · intro y hy
        show y < L.length
        rw [hl]
        exact lt5 y hy
end
end K5

namespace K5
open PySem PySem.Spec PyProof.Rows L2
section
variable {P : Program} {w : World} {K : PySem.W.Frag}
      {mg : Str → Option Value} {base : Heap}
theorem ok_moved (T : Bl mg) (D : Def K mg "_law_moved" s_l_moved) (C_l_neighbours : Cal P w K mg base "_law_neighbours" ["_law_doors", "_law_place"] 1 (spNeigh K)) : Cal P w K mg base "_law_moved" ["_law_doors", "_law_position", "_law_step"] 2 (spMoved K) := by
  refine D.ok sc_l_moved (fun _ _ _ _ _ _ us hl => match us, hl with | [_, _, _], _ => rfl) (fun vs H Q E h => ?_) (fun f cdv A outer s H vs Q E hr h => ?_)
  · obtain ⟨a, s, t, n, ds, S, m, rfl, _⟩ := h
    rfl
  obtain ⟨a, s, t, n, ds, S, m, rfl, hH, tree, hn, st, ok, ht, ⟨v1, d, j⟩, qw, qn⟩ := h
  obtain ⟨r, b, h1, h2, h3⟩ := id st
  have hdn := tree.len
  obtain ⟨f_l_neighbours, fd_l_neighbours, g_l_neighbours, k_l_neighbours, b_l_neighbours, G_l_neighbours⟩ := C_l_neighbours
  refine ⟨_, (pss_cons (ps_asg (pv 2) (pg_tup (n := 3) rfl (pgs_cons (pg_name (i := 3) sc_l_moved.nd rfl (.inl rfl)) (pgs_cons (pg_name (i := 4) sc_l_moved.nd rfl (.inl rfl)) (pgs_cons (pg_name (i := 5) sc_l_moved.nd rfl (.inr rfl)) pgs_nil)))))
    (pss_cons (ps_asg (pv 1) (pg_tup (n := 2) rfl (pgs_cons (pg_name (i := 6) sc_l_moved.nd rfl (.inl rfl)) (pgs_cons (pg_name (i := 7) sc_l_moved.nd rfl (.inl rfl)) pgs_nil))))
    (pss_cons (ps_if (pt_cmpR op_ne (pe_ix ix_tup (pv 6) (pv 3) (fun _ _ => rfl)) (pv 4) (nomark _)) (pss_one (ps_ret (pe_lst (pa_cons pe_str (pa_cons (pv 1) pa_nil))))) pss_nil)
    (pss_cons (ps_set (i := 8) sc_l_moved.nd rfl (.inl rfl) (pe_ix ix_list (pe_lc (own := [("_law_other", 9), ("_law_number", 10)]) (g := gTup K 2 (gCons (gName 9) (gCons (gName 10) gNil)))  rfl sc_l_moved.nd (pi_list (pe_call G_l_neighbours (hr.mono (by decide)) (by rfl) g_l_neighbours k_l_neighbours b_l_neighbours .nil pass0 (pa_cons (pv 0) (pa_cons (pv 4) pa_nil)))) (blkOk_by (N := N_l_moved) (sc := defScope s_l_moved) (own := [("_law_other", 9), ("_law_number", 10)]) (by decide +kernel)) (fun _ _ _ _ _ => (pg_tup (n := 2) rfl (pgs_cons (pg_name (i := 9) sc_l_moved.nd rfl (.inl rfl) (.inr rfl)) (pgs_cons (pg_name (i := 10) sc_l_moved.nd rfl (.inl rfl) (.inr rfl)) pgs_nil)))) (fun _ _ _ _ _ => (pts_one (pt_cmpR op_eq (pv 9) (pv 5) (nomark _)))) (fun _ _ _ _ _ => (pv 10))) pe_int (fun _ _ => rfl)))
    (pss_cons (ps_if (pt_cmpR op_eq (pe_ix ix_tup (pv 7) (pv 8) (fun _ _ => rfl)) (pv 3) (nomark _)) (pss_one (ps_ret (pe_lst (pa_cons pe_str (pa_cons (pv 1) pa_nil))))) pss_nil)
    (pss_cons (ps_set (i := 11) sc_l_moved.nd rfl (.inl rfl) (pe_op op_catA (pe_op op_catA (pe_slice sl_tup (pv 6) po_none (po_some (pv 3))) (pe_tup (pa_cons (pv 5) pa_nil))) (pe_slice sl_tup (pv 6) (po_some (pe_op op_add (pv 3) pe_int)) po_none)))
    (pss_one (ps_ret (pe_lst (pa_cons pe_str (pa_cons (pe_tup (pa_cons (pv 11) (pa_cons (pe_op op_catA (pe_op op_catA (pe_slice sl_tup (pv 7) po_none (po_some (pv 8))) (pe_tup (pa_cons (pv 3) pa_nil))) (pe_slice sl_tup (pv 7) (po_some (pe_op op_add (pv 8) pe_int)) po_none)) pa_nil))) pa_nil))))))))))), ?_⟩
  obtain ⟨v, hv⟩ : ∃ v, S.1[m.1]? = some v := get_of rfl v1
  have hd : d < S.2.length := by rw [ok.doors]; exact joins_lt j
  obtain ⟨bd, hbd⟩ : ∃ bd, S.2[d]? = some bd := get_of rfl hd
  have ed := dix_is tree j
  refine ⟨_, rfl, _, _, rfl, SqT.of ht, rfl, _, _, rfl, _, _, rfl, _, _, rfl, rfl, ?_⟩
  refine ⟨_, rfl, _, _, rfl, h1, rfl, _, _, rfl, _, _, rfl, rfl, ?_⟩
  refine ⟨_, rfl, _, rfl, r, _, _, _, rfl, rfl, h2, nv_at hv, _, rfl, rfl, _, rfl, ?_⟩
  by_cases cv : v = m.2.1
  case neg =>
    rw [decide_eq_false (show ¬ V.int (v : Int) = V.int (m.2.1 : Int) from fun z => cv (by have := V.int.inj z; omega))]
    have hw : why ds S m = some "away" := by
      unfold why
      rw [if_pos (by rw [getD_of hv]; exact cv)]
    exact iteT ⟨_, rfl, by show 2 ≤ sizeLine; decide, fun q nq => qw "away" hw _ q (Same.upd nq) upd_same⟩
  rw [decide_eq_true (show V.int (v : Int) = V.int (m.2.1 : Int) by rw [cv])]
  refine iteF ?_
  refine ⟨_, rfl, _, rfl, a, ds, n, m.2.1, rfl, hH, tree, hn, fun H1 q1 pl s1 nq1 ⟨ts, g1, g2, g3⟩ mem nod len => ?_⟩
  refine ⟨q1, rfl, ⟨_, SqL.of g1⟩, fun pd npd => ?_⟩
  refine lc_it (walk_list (K := K) (a := q1) (xs := ts.map V.ref)) (fun i H2 => ∃ acc : List Nat, Same H1 H2 ∧ H2 pd = some (.lst (nv acc)) ∧ acc.length ≤ i ∧ (∀ x ∈ acc, x = d) ∧ ∀ i' < i, pl[i']? = some (m.2.2, d) → d ∈ acc)
    ⟨[], Same.upd npd, upd_same, Nat.zero_le _, fun x hx => (List.not_mem_nil hx).elim, fun i' h => by omega⟩ (fun i H2 _ ⟨_, sm, _⟩ => SqL.of (sm _ _ g1)) ?_ ?_
  · rintro i x H2 H3 hi ⟨acc, sm, hp, hl, al, cm⟩ ⟨rfl, ex⟩
    have hi' : i < pl.length := by
      rw [List.length_map, g2] at hi
      exact hi
    obtain ⟨t1, ht1⟩ : ∃ t1, ts[i]? = some t1 := get_of g2 hi'
    obtain ⟨e, he⟩ : ∃ e, pl[i]? = some e := get_of rfl hi'
    have ex' : V.ref t1 = x := by
      have ex : (ts.map V.ref)[i]? = some x := ex
      rw [List.getElem?_map, ht1] at ex
      exact Option.some.inj ex
    subst ex'
    refine ⟨t1, _, rfl, SqT.of (sm _ _ (g3 i t1 e ht1 he)), rfl, _, _, rfl, _, _, rfl, rfl, rfl, ?_⟩
    refine ⟨_, rfl, _, rfl, rfl, _, rfl, ?_⟩
    have je : Joins ds e.2 m.2.1 e.1 := (mem e.1 e.2).mp (List.mem_of_getElem? he)
    by_cases ce : e.1 = m.2.2
    · rw [decide_eq_true (show V.int (e.1 : Int) = V.int (m.2.2 : Int) by rw [ce])]
      have e2d : e.2 = d := tree.one_door (ce ▸ je) j
      refine iteT ⟨_, rfl, _, hp, by rw [nv_len]; exact small1000 (by omega), acc ++ [e.2], sm.at npd, by rw [upd_same, nv_snoc], by simp; omega, fun x hx => ?_, fun i' h he' => ?_⟩
      · rcases List.mem_append.mp hx with hx | hx
        · exact al x hx
        · rw [List.mem_singleton] at hx
          rw [hx]
          exact e2d
      · rw [e2d]
        simp
    · rw [decide_eq_false (show ¬ V.int (e.1 : Int) = V.int (m.2.2 : Int) from fun z => ce (by have := V.int.inj z; omega))]
      refine iteF ⟨acc, sm, hp, by omega, al, fun i' h he' => ?_⟩
      by_cases c : i' = i
      · subst c
        rw [he] at he'
        cases he'
        exact absurd rfl ce
      · exact cm i' (by omega) he'
  · rintro H2 ⟨acc, sm, hp, hl, al, cm⟩
    have dm : d ∈ acc := by
      have hm := (mem m.2.2 d).mpr j
      obtain ⟨i, hi⟩ := List.mem_iff_getElem?.mp hm
      refine cm i ?_ hi
      rw [List.length_map, g2]
      exact get_lt hi
    obtain ⟨x0, hx0⟩ : ∃ x0, acc[0]? = some x0 := by
      cases acc with
      | nil => cases dm
      | cons y r => exact ⟨y, rfl⟩
    have ex0 : x0 = d := al x0 (List.mem_of_getElem? hx0)
    subst ex0
    have s2 := s1.trans sm
    refine ⟨pd, _, _, _, rfl, rfl, SqL.of hp, nv_at hx0, ?_⟩
    refine ⟨_, rfl, _, rfl, b, _, _, _, rfl, rfl, s2.tup h3, nv_at hbd, _, rfl, rfl, _, rfl, ?_⟩
    by_cases cb : bd = m.1
    · rw [decide_eq_true (show V.int (bd : Int) = V.int (m.1 : Int) by rw [cb])]
      have hw : why ds S m = some "barred" := by
        unfold why
        rw [if_neg (by rw [getD_of hv, cv]; simp), ed, if_pos (by rw [getD_of hbd, cb])]
      exact iteT ⟨_, rfl, by show 2 ≤ sizeLine; decide, fun q nq => qw "barred" hw _ q (s2.trans (Same.upd nq)) upd_same⟩
    · rw [decide_eq_false (show ¬ V.int (bd : Int) = V.int (m.1 : Int) from fun z => cb (by have := V.int.inj z; omega))]
      have hw : why ds S m = none := by
        unfold why
        rw [if_neg (by rw [getD_of hv, cv]; simp), ed, if_neg (by rw [getD_of hbd]; exact cb)]
      refine iteF ?_
      have few := ok.few
      have sz4 : (4 : Nat) + 1000 ≤ sizeLine := Nat.le_of_lt (small3k (by decide))
      obtain ⟨c1, c2⟩ := cut_to v1
      obtain ⟨c3, c4⟩ := cut_from v1
      refine ⟨_, rfl, _, rfl, _, rfl, r, _, rfl, s2.tup h2, c2, fun p1 np1 => ?_⟩
      rw [c1]
      have sa := s2.trans (Same.upd (o := .tup (nv (S.1.take m.1))) np1)
      refine ⟨_, rfl, by show 1 ≤ sizeLine; decide, fun p2 np2 => ?_⟩
      have sb := sa.trans (Same.upd (o := .tup [.int (m.2.2 : Int)]) np2)
      have hp1 : (upd (upd H2 p1 (.tup (nv (S.1.take m.1)))) p2 (.tup [.int (m.2.2 : Int)])) p1 = some (.tup (nv (S.1.take m.1))) := by rw [upd_ne (ne_of_none upd_same np2), upd_same]
      refine catA_of (SqT.of hp1) (SqT.of upd_same) (by rw [nv_len, List.length_take, List.length_singleton]; omega) fun H4 p3 s4 h4 => ?_
      have sc := sb.trans s4
      refine ⟨_, rfl, _, rfl, _, _, rfl, rfl, _, rfl, r, _, rfl, sc.tup h2, c4, fun p4 np4 => ?_⟩
      rw [c3]
      have s5 := Same.upd (o := .tup (nv (S.1.drop (m.1 + 1)))) np4
      refine catA_of (s5.tup h4) (SqT.of upd_same) (by rw [List.length_append, nv_len, List.length_take, List.length_singleton, nv_len, List.length_drop]; omega) fun H6 p5 s6 h6 => ?_
      rw [nv_cut _ _ _ v1] at h6
      have sd := (sc.trans s5).trans s6
      obtain ⟨c5, c6⟩ := cut_to hd
      obtain ⟨c7, c8⟩ := cut_from hd
      have bl := ok.doors
      refine ⟨_, rfl, _, rfl, _, rfl, _, rfl, b, _, rfl, sd.tup h3, c6, fun p6 np6 => ?_⟩
      rw [c5]
      have se := sd.trans (Same.upd (o := .tup (nv (S.2.take x0))) np6)
      have h6e := (Same.upd (o := .tup (nv (S.2.take x0))) np6).tup h6
      refine ⟨_, rfl, by show 1 ≤ sizeLine; decide, fun p7 np7 => ?_⟩
      have sf := se.trans (Same.upd (o := .tup [.int (m.1 : Int)]) np7)
      have h6f := (Same.upd (o := .tup [.int (m.1 : Int)]) np7).tup h6e
      have hp6 : (upd (upd H6 p6 (.tup (nv (S.2.take x0)))) p7 (.tup [.int (m.1 : Int)])) p6 = some (.tup (nv (S.2.take x0))) := by rw [upd_ne (ne_of_none upd_same np7), upd_same]
      refine catA_of (SqT.of hp6) (SqT.of upd_same) (by rw [nv_len, List.length_take, List.length_singleton]; omega) fun H8 p8 s8 h8 => ?_
      have sg := sf.trans s8
      have h6g := s8.tup h6f
      refine ⟨_, rfl, _, rfl, _, _, rfl, rfl, _, rfl, b, _, rfl, sg.tup h3, c8, fun p9 np9 => ?_⟩
      rw [c7]
      have s9 := Same.upd (o := .tup (nv (S.2.drop (x0 + 1)))) np9
      refine catA_of (s9.tup h8) (SqT.of upd_same) (by rw [List.length_append, nv_len, List.length_take, List.length_singleton, nv_len, List.length_drop]; omega) fun H10 p10 s10 h10 => ?_
      rw [nv_cut _ _ _ hd] at h10
      have sh := (sg.trans s9).trans s10
      have h6h := s10.tup (s9.tup h6g)
      refine ⟨by show 2 ≤ sizeLine; decide, fun p11 np11 => ?_⟩
      have s11 := Same.upd (o := .tup [.ref p5, .ref p10]) np11
      refine ⟨by show 2 ≤ sizeLine; decide, fun p12 np12 => ?_⟩
      have s12 := Same.upd (o := .lst [.str "done", .ref p11]) np12
      refine qn hw _ p12 p11 ((sh.trans s11).trans s12) upd_same ⟨p5, p10, SqT.of (s12 _ _ upd_same), s12.tup (s11.tup h6h), s12.tup (s11.tup ?_)⟩
      show SqT K H10 p10 (nv (S.2.set (dix ds m.2.1 m.2.2) m.1))
      rw [ed]
      exact h10
end
end K5

namespace K5
open PySem PySem.Spec PyProof.Rows L2
/-- the steps found: all of the people ahead of k, and of person k (in room v) those by the first i neighbours -/
structure SI (ds : List (Nat × Nat)) (S : S2) (k v : Nat) (pl : List (Nat × Nat)) (i : Nat) (l : List Mv) : Prop where
  mem : ∀ m, m ∈ l ↔ (m.1 < k ∧ Can ds S m) ∨ (m.1 = k ∧ m.2.1 = v ∧ ∃ d, (m.2.2, d) ∈ pl.take i ∧ S.2[d]? ≠ some k)
  nd : l.Nodup
  len : l.length ≤ ds.length * k + i
structure SO (ds : List (Nat × Nat)) (S : S2) (k : Nat) (l : List Mv) : Prop where
  mem : ∀ m, m ∈ l ↔ m.1 < k ∧ Can ds S m
  nd : l.Nodup
  len : l.length ≤ ds.length * k
theorem take_succ_mem {α : Type} {l : List α} {i : Nat} {x y : α} (h : l[i]? = some x) : y ∈ l.take (i + 1) ↔ y ∈ l.take i ∨ y = x := by
  rw [List.take_succ, h, List.mem_append]
  simp
theorem not_mem_take {α : Type} {l : List α} {i : Nat} {x : α} (nd : l.Nodup) (h : l[i]? = some x) : x ∉ l.take i := by
  intro hm
  obtain ⟨j, hj⟩ := List.mem_iff_getElem?.mp hm
  rw [List.getElem?_take] at hj
  split at hj
  · rename_i hji
    have h1 := get_lt hj
    have h2 := get_lt h
    rw [List.getElem?_eq_getElem h1] at hj
    rw [List.getElem?_eq_getElem h2] at h
    have e := Option.some.inj (hj.trans h.symm)
    have := (List.getElem_inj nd).mp e
    omega
  · cases hj
theorem SO.start {ds S k v l pl} (h : SO ds S k l) : SI ds S k v pl 0 l := by
  refine ⟨fun m => ?_, h.nd, h.len⟩
  rw [h.mem m]
  simp
theorem SI.add {n ds S k v pl i l y d} (T : Tree n ds) (h : SI ds S k v pl i l) (mem : ∀ y d, (y, d) ∈ pl ↔ Joins ds d v y) (nd : pl.Nodup) (hi : pl[i]? = some (y, d)) (hb : S.2[d]? ≠ some k) : SI ds S k v pl (i + 1) (l ++ [(k, v, y)]) := by
  have jy := (mem y d).mp (List.mem_of_getElem? hi)
  refine ⟨fun m => ?_, ?_, by rw [List.length_append, List.length_singleton]; have := h.len; omega⟩
  · rw [List.mem_append, List.mem_singleton, h.mem m]
    constructor
    · rintro ((q | ⟨q1, q2, c, q3, q4⟩) | rfl)
      · exact .inl q
      · exact .inr ⟨q1, q2, c, (take_succ_mem hi).mpr (.inl q3), q4⟩
      · exact .inr ⟨rfl, rfl, d, (take_succ_mem hi).mpr (.inr rfl), hb⟩
    · rintro (q | ⟨q1, q2, c, q3, q4⟩)
      · exact .inl (.inl q)
      · rcases (take_succ_mem hi).mp q3 with q | q
        · exact .inl (.inr ⟨q1, q2, c, q, q4⟩)
        · obtain ⟨a, b, z⟩ := m
          simp only at q1 q2 q
          cases q
          rw [q1, q2]
          exact .inr rfl
  · refine List.nodup_append.mpr ⟨h.nd, by simp, fun a ha b hb' => ?_⟩
    rintro rfl
    rw [List.mem_singleton] at hb'
    subst hb'
    rcases (h.mem _).mp ha with ⟨q, _⟩ | ⟨_, _, c, q, _⟩
    · exact Nat.lt_irrefl _ q
    · have jc := (mem y c).mp (List.mem_of_mem_take q)
      have e := T.one_door jc jy
      subst e
      exact not_mem_take nd hi q
theorem SI.skip {ds S k v pl i l y d} (h : SI ds S k v pl i l) (hi : pl[i]? = some (y, d)) (hb : S.2[d]? = some k) : SI ds S k v pl (i + 1) l := by
  refine ⟨fun m => ?_, h.nd, by have := h.len; omega⟩
  rw [h.mem m]
  constructor
  · rintro (q | ⟨q1, q2, c, q3, q4⟩)
    · exact .inl q
    · exact .inr ⟨q1, q2, c, (take_succ_mem hi).mpr (.inl q3), q4⟩
  · rintro (q | ⟨q1, q2, c, q3, q4⟩)
    · exact .inl q
    · rcases (take_succ_mem hi).mp q3 with q | q
      · exact .inr ⟨q1, q2, c, q, q4⟩
      · cases q
        exact absurd hb q4
theorem SI.done {ds S k v pl l} (h : SI ds S k v pl pl.length l) (mem : ∀ y d, (y, d) ∈ pl ↔ Joins ds d v y) (hv : S.1[k]? = some v) (hl : pl.length ≤ ds.length) : SO ds S (k + 1) l := by
  refine ⟨fun m => ?_, h.nd, ?_⟩
  · rw [h.mem m, List.take_length]
    constructor
    · rintro (⟨q1, q2⟩ | ⟨q1, q2, c, q3, q4⟩)
      · exact ⟨by omega, q2⟩
      · refine ⟨by omega, ?_, ?_, c, ?_, ?_⟩
        · rw [q1]; exact get_lt hv
        · rw [q1, q2]; exact hv
        · rw [q2]; exact (mem _ _).mp q3
        · rw [q1]; exact q4
    · rintro ⟨q1, q2⟩
      by_cases c : m.1 = k
      · obtain ⟨_, r2, d, r3, r4⟩ := q2
        rw [c, hv] at r2
        have e := Option.some.inj r2
        refine .inr ⟨c, e.symm, d, (mem _ _).mpr (by rw [e]; exact r3), by rw [c] at r4; exact r4⟩
      · exact .inl ⟨by omega, q2⟩
  · have := h.len
    rw [Nat.mul_succ]
    omega
/-- each move by a door that there is -/
def spEvery (K : PySem.W.Frag) : Sp := fun vs H Q _ => ∃ (a : Addr) (p n : Nat) (ds : List (Nat × Nat)), vs = [.ref a, .int (p : Int)] ∧ HouseAt K H a ds ∧ Tree n ds ∧ n ≤ 8 ∧ p ≤ 4 ∧
  ∀ (H' : Hp) (q : Addr) (l : List Mv), Same H H' → H q = none → TrisAt H' q l → (∀ m ∈ l, VM ds p m) → l.length ≤ 56 → Q (.ref q) H'
section
variable {P : Program} {w : World} {K : PySem.W.Frag}
      {mg : Str → Option Value} {base : Heap}
theorem ok_steps (T : Bl mg) (D : Def K mg "_law_steps" s_l_steps) (C_l_neighbours : Cal P w K mg base "_law_neighbours" ["_law_doors", "_law_place"] 1 (spNeigh K)) : Cal P w K mg base "_law_steps" ["_law_doors", "_law_position"] 2 (spPoss K) := by
  refine D.ok sc_l_steps (fun _ _ _ _ _ _ us hl => match us, hl with | [_, _], _ => rfl) (fun vs H Q E h => ?_) (fun f cdv A outer s H vs Q E hr h => ?_)
  · obtain ⟨a, s, ds, n, S, rfl, _⟩ := h
    rfl
  obtain ⟨a, s, ds, n, S, rfl, hH, tree, hn, st, ok, q⟩ := h
  obtain ⟨r, b, h1, h2, h3⟩ := id st
  have hdn := tree.len
  have few := ok.few
  obtain ⟨f_l_neighbours, fd_l_neighbours, g_l_neighbours, k_l_neighbours, b_l_neighbours, G_l_neighbours⟩ := C_l_neighbours
  refine ⟨_, (pss_cons (ps_set (i := 2) sc_l_steps.nd rfl (.inl rfl) (pe_lst pa_nil))
    (pss_cons (ps_for PassesOwn.never rfl (pi_enumT (by rfl) T.enumerate (pa_cons (pe_ix ix_tup (pv 1) pe_int (fun _ _ => rfl)) pa_nil)) (pg_tup (n := 2) rfl (pgs_cons (pg_name (i := 3) sc_l_steps.nd rfl (.inl rfl)) (pgs_cons (pg_name (i := 4) sc_l_steps.nd rfl (.inl rfl)) pgs_nil)))
    (pss_one (ps_for PassesOwn.never rfl (pi_list (pe_call G_l_neighbours (hr.mono (by decide)) (by rfl) g_l_neighbours k_l_neighbours b_l_neighbours .nil pass0 (pa_cons (pv 0) (pa_cons (pv 4) pa_nil)))) (pg_tup (n := 2) rfl (pgs_cons (pg_name (i := 5) sc_l_steps.nd rfl (.inl rfl)) (pgs_cons (pg_name (i := 6) sc_l_steps.nd rfl (.inl rfl)) pgs_nil)))
    (pss_one (ps_if (pt_cmpR op_ne (pe_ix ix_tup (pe_ix ix_tup (pv 1) pe_int (fun _ _ => rfl)) (pv 6) (fun _ _ => rfl)) (pv 3) (nomark _)) (pss_one (ps_expr (pe_bm PySem.F.plainAttrs_list PySem.F.slot_list_append PySem.F.type_list_append mt_append (pv 2) (pa_cons (pe_tup (pa_cons (pv 3) (pa_cons (pv 4) (pa_cons (pv 5) pa_nil)))) pa_nil)))) pss_nil)))))
    (pss_one (ps_ret (pe_callB (cr_sortT (d := 3) (B := 64) (by decide)) (by rfl) T.sorted (by decide +kernel) (pa_cons (pv 2) pa_nil)))))), ?_⟩
  refine ⟨Nat.zero_le _, fun p np => ?_⟩
  have sp1 := Same.upd (o := .lst []) np
  refine ⟨_, rfl, s, _, _, _, rfl, rfl, sp1.tup h1, atI_nat (j := 0) rfl, r, _, rfl, sp1.tup h2, ?_⟩
  refine for_it (walk_enumT (K := K) (a := r) (xs := nv S.1)) (fun k σ H2 => ∃ l y3 y4 y5 y6, σ = [some (.ref a), some (.ref s), some (.ref p), y3, y4, y5, y6] ∧ Same H H2 ∧ TrisAt H2 p l ∧ SO ds S k l)
    ⟨[], _, _, _, _, rfl, sp1, ⟨[], upd_same, TL.nil⟩, ⟨fun m => by simp, List.nodup_nil, Nat.zero_le _⟩⟩ (fun i σ H2 _ ⟨_, _, _, _, _, _, sm, _⟩ => sm.tup h2) ?_ ?_
  · rintro k x σ H2 H3 hk ⟨l, y3, y4, y5, y6, rfl, sm, tr, so⟩ ⟨t, x1, x2, rfl, nt, rfl, ex1, ex2⟩
    cases ex1
    obtain ⟨v, hv, rfl⟩ := nv_some ex2
    have kP := get_lt hv
    have smt : Same H2 (upd H2 t (.tup [.int (k : Nat), .int (v : Int)])) := Same.upd nt
    have sm4 := sm.trans smt
    have tr4 := tr.same smt
    refine ⟨t, _, rfl, SqT.of upd_same, rfl, _, _, rfl, _, _, rfl, rfl, ?_⟩
    generalize upd H2 t (.tup [.int (k : Nat), .int (v : Int)]) = H4 at smt sm4 tr4
    refine ⟨_, rfl, _, rfl, a, ds, n, v, rfl, hH.same sm4, tree, by omega, fun H5 q1 pl s5 nq1 ⟨ts1, g1, g2, g3⟩ mem nod len => ?_⟩
    have sm5 := sm4.trans s5
    have tr5 := tr4.same s5
    refine ⟨q1, rfl, ⟨_, SqL.of g1⟩, ?_⟩
    obtain ⟨ts0, f0, _⟩ := id tr4
    obtain ⟨ts5, f5, _⟩ := id tr5
    have npq : q1 ≠ p := (ne_of_none f0 nq1).symm
    refine for_it (walk_list (K := K) (a := q1) (xs := ts1.map V.ref)) (fun i σ H6 => ∃ l y5 y6, σ = [some (.ref a), some (.ref s), some (.ref p), some (.int (k : Int)), some (.int (v : Int)), y5, y6] ∧ But p H5 H6 ∧ Same H H6 ∧ TrisAt H6 p l ∧ SI ds S k v pl i l)
      ⟨l, _, _, rfl, But.refl _ _, sm5, tr5, so.start⟩ (fun i σ H6 _ ⟨_, _, _, _, bt, _⟩ => SqL.of (bt _ _ npq g1)) ?_ ?_
    · rintro i x σ H6 H7 hi ⟨l, y5, y6, rfl, bt, sm6, ⟨ts, f1, f2⟩, si⟩ ⟨rfl, ex⟩
      have hi' : i < pl.length := by
        rw [List.length_map, g2] at hi
        exact hi
      obtain ⟨t1, ht1⟩ : ∃ t1, ts1[i]? = some t1 := get_of g2 hi'
      obtain ⟨e, he⟩ : ∃ e, pl[i]? = some e := get_of rfl hi'
      have ex' : V.ref t1 = x := by
        have ex : (ts1.map V.ref)[i]? = some x := ex
        rw [List.getElem?_map, ht1] at ex
        exact Option.some.inj ex
      subst ex'
      have hte := g3 i t1 e ht1 he
      have hte6 := bt _ _ (ne_lt f5 hte) hte
      have je : Joins ds e.2 v e.1 := (mem e.1 e.2).mp (List.mem_of_getElem? he)
      obtain ⟨bk, hbk⟩ : ∃ bk, S.2[e.2]? = some bk := get_of ok.doors (joins_lt je)
      refine ⟨t1, _, rfl, SqT.of hte6, rfl, _, _, rfl, _, _, rfl, rfl, ?_⟩
      refine ⟨_, rfl, s, _, _, _, rfl, rfl, sm6.tup h1, atI_nat (j := 1) rfl, _, rfl, b, _, _, _, rfl, rfl, sm6.tup h3, nv_at hbk, _, rfl, rfl, _, rfl, ?_⟩
      have ll := si.len
      have kb : ds.length * k ≤ ds.length * 3 := Nat.mul_le_mul_left _ (by omega)
      by_cases cb : bk = k
      · rw [decide_eq_true (show V.int (bk : Int) = V.int (k : Int) by rw [cb])]
        exact iteF ⟨l, _, _, rfl, bt, sm6, ⟨ts, f1, f2⟩, si.skip he (by rw [hbk, cb])⟩
      · rw [decide_eq_false (show ¬ V.int (bk : Int) = V.int (k : Int) from fun z => cb (by have := V.int.inj z; omega))]
        refine iteT ?_
        refine ⟨_, rfl, .inl ⟨rfl, _, SqL.of f1⟩, _, rfl, _, rfl, _, rfl, by show 3 ≤ sizeLine; decide, fun t2 nt2 => ?_⟩
        have ntp : t2 ≠ p := (ne_of_none f1 nt2).symm
        refine ⟨p, _, _, rfl, rfl, by rw [upd_ne ntp.symm]; exact f1, by rw [List.length_map, f2.1]; exact small1000 (by omega), l ++ [(k, v, e.1)], _, _, rfl, (bt.trans (Same.upd nt2).but).upd _, (sm6.trans (Same.upd nt2)).at np, ⟨ts ++ [t2], by rw [upd_same, List.map_append]; rfl, ?_⟩, si.add tree mem nod he (by rw [hbk]; intro z; exact cb (Option.some.inj z))⟩
        refine TL.append ?_ (TL.one (by rw [upd_ne ntp, upd_same]; rfl))
        refine ⟨f2.1, fun i t' m' e1 e2 => ?_⟩
        have z := f2.2 i t' m' e1 e2
        rw [upd_ne (ne_lt f1 z), upd_ne (ne_of_none z nt2)]
        exact z
    · rintro σ H6 ⟨l, y5, y6, rfl, bt, sm6, tr6, si⟩
      rw [List.length_map, g2] at si
      exact ⟨l, _, _, _, _, rfl, sm6, tr6, si.done mem hv len⟩
  · rintro σ H2 ⟨l, y3, y4, y5, y6, rfl, sm, ⟨ts, g1, g2⟩, so⟩
    rw [nv_len] at so
    have ll := so.len
    have kb : ds.length * S.1.length ≤ ds.length * 4 := Nat.mul_le_mul_left _ few
    have mc : ∀ m, m ∈ l ↔ Can ds S m := fun m => (so.mem m).trans ⟨fun h => h.2, fun h => ⟨h.1, h⟩⟩
    have sms : ∀ m ∈ l, Sm m := fun m hm => ((mc m).mp hm).sm tree hn ok
    refine ⟨_, rfl, p, _, rfl, SqL.of g1, by rw [List.length_map, g2.1]; omega, fun v hv => ?_, fun ys q0 pr asc nq => ?_⟩
    · obtain ⟨t, ht, rfl⟩ := List.mem_map.mp hv
      obtain ⟨i, hi⟩ := List.mem_iff_getElem?.mp ht
      obtain ⟨m, hm⟩ : ∃ m, l[i]? = some m := get_of g2.1.symm (get_lt hi)
      exact tup_of (g2.2 i t m hi hm) (sms m (List.mem_of_getElem? hm))
    · obtain ⟨ts', l', rfl, cn, tl'⟩ := sorted_canon g2 mc sms so.nd pr asc
      exact q _ q0 l' (sm.trans (Same.upd nq)) (sm.free nq) ⟨ts', upd_same, tl'.same (Same.upd nq)⟩ cn
end
end K5

namespace K5
open PySem PySem.Spec PyProof.Rows L2
theorem runs_snoc {ds : List (Nat × Nat)} {m : Mv} : ∀ (l : List Mv) (i : Nat) (S S' : S2), runs ds i S l = .inr S' → why ds S' m = none → runs ds i S (l ++ [m]) = .inr (nxt ds S' m)
  | [], i, S, S', h, hw => by
    have e : S = S' := Sum.inr.inj h
    subst e
    show runs ds i S [m] = _
    rw [runs, hw]
    rfl
  | m0 :: r, i, S, S', h, hw => by
    rw [runs] at h
    show runs ds i S (m0 :: (r ++ [m])) = _
    rw [runs]
    split at h
    · cases h
    · exact runs_snoc r _ _ _ h hw
theorem eqv_nil (l : List Mv) : PyData.eqv (dMs l) (dMs []) = decide (l = []) := by
  cases l with
  | nil => exact d_refl (dMs_shaped [])
  | cons m r =>
    rw [decide_eq_false (by simp)]
    simp only [dMs, List.map_cons, List.map_nil, PyData.eqv, PyData.eqvAll]
theorem Canon.len {l P} (c : Canon l P) : l.length ≤ 262144 := by
  have h := nodup_le 262144 (l.map fun m : Mv => m.1 * 4096 + m.2.1 * 64 + m.2.2) (List.pairwise_map.mpr (c.asc.imp fun h => by
    rw [mcode_is, mcode_is] at h
    omega)) fun x hx => by
      obtain ⟨m, hm, rfl⟩ := List.mem_map.mp hx
      obtain ⟨h1, h2, h3⟩ := c.sm m hm
      omega
  rw [List.length_map] at h
  exact h
def spRSteps (K : PySem.W.Frag) : Sp := fun vs H Q _ => ∃ (g a s : Addr) (b n most : Nat) (ds : List (Nat × Nat)) (S : S2), vs = [.ref g, .ref a, .ref s, .int (most : Int)] ∧ GenAt H g b ∧ HouseAt K H a ds ∧ Tree n ds ∧ n ≤ 15 ∧ StateAt K H s S ∧ StOk n ds S ∧ most ≤ 40 ∧ b < 2 ^ 59 ∧
  ∀ (H' : Hp) (q sl sf : Addr) (l : List Mv) (S' : S2), But g H H' → GenAt H' g (b + 100) → H' q = some (.lst [.ref sl, .ref sf]) → TrisAt H' sl l → sl ≠ g → (∀ m ∈ l, VM ds S.1.length m) → l.length ≤ most → runs ds 0 S l = .inr S' → StateAt K H' sf S' → StOk n ds S' → S'.1.length = S.1.length → Q (.ref q) H'
def spExp (K : PySem.W.Frag) : Sp := fun vs H Q _ => ∃ (a s pl : Addr) (n : Nat) (ds : List (Nat × Nat)) (S : S2) (l : List Mv), vs = [.ref a, .ref s, .ref pl] ∧ HouseAt K H a ds ∧ Tree n ds ∧ n ≤ 1000 ∧ StateAt K H s S ∧ StOk n ds S ∧ TrisAt H pl l ∧ (∀ m ∈ l, VM ds S.1.length m) ∧
  ∀ (H' : Hp) (q : Addr), Same H H' → Dp K H' (.ref q) (dO (runs ds 0 S l)) → Q (.ref q) H'
section
variable {P : Program} {w : World} {K : PySem.W.Frag}
      {mg : Str → Option Value} {base : Heap}
theorem TrisAt.but {g q : Addr} {H H' : Hp} {l : List Mv} {xs : List V} (h : TrisAt H q l) (hg : H g = some (.lst xs)) (ne : q ≠ g) (s : But g H H') : TrisAt H' q l := by
  obtain ⟨ts, h1, h2⟩ := h
  exact ⟨ts, s _ _ ne h1, h2.but hg s⟩
theorem ok_random_steps (T : Bl mg) (D : Def K mg "_law_random_steps" s_l_random_steps) (C_l_random : Cal P w K mg base "_law_random" ["_law_generator_here", "_law_bound"] 2 spRand) (C_l_steps : Cal P w K mg base "_law_steps" ["_law_doors", "_law_position"] 2 (spPoss K))
    (C_l_moved : Cal P w K mg base "_law_moved" ["_law_doors", "_law_position", "_law_step"] 2 (spMoved K)) : Cal P w K mg base "_law_random_steps" ["_law_generator_here", "_law_doors", "_law_position", "_law_most"] 3 (spRSteps K) := by
  refine D.ok sc_l_random_steps (fun _ _ _ _ _ _ us hl => match us, hl with | [_, _, _, _], _ => rfl) (fun vs H Q E h => ?_) (fun f cdv A outer s H vs Q E hr h => ?_)
  · obtain ⟨g, a, s, b, n, most, ds, S, rfl, _⟩ := h
    rfl
  obtain ⟨g, a, s, b, n, most, ds, S, rfl, hg, hH, tree, hn, st, ok, hm, hb, q⟩ := h
  have hdn := tree.len
  obtain ⟨gx, hgx⟩ := hg.lst
  obtain ⟨f_l_random, fd_l_random, g_l_random, k_l_random, b_l_random, G_l_random⟩ := C_l_random
  obtain ⟨f_l_steps, fd_l_steps, g_l_steps, k_l_steps, b_l_steps, G_l_steps⟩ := C_l_steps
  obtain ⟨f_l_moved, fd_l_moved, g_l_moved, k_l_moved, b_l_moved, G_l_moved⟩ := C_l_moved
  refine ⟨_, (pss_cons (ps_set (i := 4) sc_l_random_steps.nd rfl (.inl rfl) (pe_lst pa_nil))
    (pss_cons (ps_for PassesOwn.never rfl (pi_range1 rfl T.range (pa_cons (pe_call G_l_random (hr.mono (by decide)) (by rfl) g_l_random k_l_random b_l_random .nil pass0 (pa_cons (pv 0) (pa_cons (pe_op op_add (pv 3) pe_int) pa_nil))) pa_nil)) (pg_name (i := 5) sc_l_random_steps.nd rfl (.inl rfl))
    (pss_cons (ps_set (i := 6) sc_l_random_steps.nd rfl (.inl rfl) (pe_call G_l_steps (hr.mono (by decide)) (by rfl) g_l_steps k_l_steps b_l_steps .nil pass0 (pa_cons (pv 1) (pa_cons (pv 2) pa_nil))))
    (pss_one (ps_if (pt_cmpR (op_neD hr.units) (pv 6) (pe_lst pa_nil) (nomark _)) (pss_cons (ps_set (i := 7) sc_l_random_steps.nd rfl (.inl rfl) (pe_ix ix_list (pv 6) (pe_call G_l_random (hr.mono (by decide)) (by rfl) g_l_random k_l_random b_l_random .nil pass0 (pa_cons (pv 0) (pa_cons (pe_callB call_len_seq (by rfl) T.len PySem.boot_len (pa_cons (pv 6) pa_nil)) pa_nil))) (fun _ _ => rfl)))
    (pss_cons (ps_set (i := 2) sc_l_random_steps.nd rfl (.inl rfl) (pe_ix ix_list (pe_call G_l_moved (hr.mono (by decide)) (by rfl) g_l_moved k_l_moved b_l_moved .nil pass0 (pa_cons (pv 1) (pa_cons (pv 2) (pa_cons (pv 7) pa_nil)))) pe_int (fun _ _ => rfl)))
    (pss_one (ps_expr (pe_bm PySem.F.plainAttrs_list PySem.F.slot_list_append PySem.F.type_list_append mt_append (pv 4) (pa_cons (pv 7) pa_nil)))))) pss_nil))))
    (pss_one (ps_ret (pe_lst (pa_cons (pv 4) (pa_cons (pv 2) pa_nil))))))), ?_⟩
  refine ⟨Nat.zero_le _, fun p np => ?_⟩
  have npg : p ≠ g := hg.ne np
  have bt0 : But g H (upd H p (.lst [])) := (Same.upd np).but
  refine ⟨_, rfl, _, rfl, _, _, rfl, rfl, g, b, most + 1, rfl, hg.at npg, by omega, by omega, by omega, fun H1 cnt bt1 g1 hc => ?_⟩
  have bt01 := bt0.trans bt1
  have hp1 : H1 p = some (.lst []) := bt1 _ _ npg upd_same
  refine ⟨(cnt : Int), rfl, by omega, by omega, ?_⟩
  refine for_range (lo := 0) (n := cnt) (fun i σ H2 => ∃ l sa S' y5 y6 y7, σ = [some (.ref g), some (.ref a), some (.ref sa), some (.int (most : Int)), some (.ref p), y5, y6, y7] ∧ But g H H2 ∧ GenAt H2 g (b + 1 + i) ∧ TrisAt H2 p l ∧ StateAt K H2 sa S' ∧ StOk n ds S' ∧ S'.1.length = S.1.length ∧ runs ds 0 S l = .inr S' ∧ (∀ m ∈ l, VM ds S.1.length m) ∧ l.length ≤ i)
    ⟨[], s, S, _, _, _, rfl, bt01, g1, ⟨[], hp1, TL.nil⟩, st.but hgx bt01, ok, rfl, rfl, fun m hm => (List.not_mem_nil hm).elim, Nat.zero_le _⟩ ?_ ?_
  · rintro i σ H2 hi ⟨l, sa, S', y5, y6, y7, rfl, bt, g2, tr, st2, ok2, lk, er, vm, ll⟩
    rw [Int.zero_add]
    have hH2 := hH.but hgx bt
    refine ⟨_, rfl, _, rfl, a, sa, ds, n, S', rfl, hH2, tree, hn, st2, ok2, fun H3 q1 al s3 nq1 tra cn => ?_⟩
    have g3 := g2.same s3
    have tr3 := tr.same s3
    have st3 := st2.same s3
    have bt3 := bt.trans s3.but
    have nq1g : q1 ≠ g := g2.ne nq1
    refine ⟨_, rfl, Nat.zero_le _, fun pe npe => ?_⟩
    have s4 := Same.upd (o := .lst []) npe
    have trE : TrisAt (upd H3 pe (.lst [])) pe [] := ⟨[], upd_same, TL.nil⟩
    refine ⟨dMs al, dMs [], dp_Tris (tra.same s4), dp_Tris trE, dMs_shaped _, dMs_shaped _, _, rfl, ?_⟩
    rw [eqv_nil]
    have g4 := g3.same s4
    have tr4 := tr3.same s4
    have st4 := st3.same s4
    have tra4 := tra.same s4
    have bt4 := bt3.trans s4.but
    generalize upd H3 pe (.lst []) = H4 at g4 tr4 st4 tra4 bt4
    by_cases ca : al = []
    · rw [decide_eq_true ca]
      exact iteF ⟨l, sa, S', _, _, _, rfl, bt4, g4.mono (by omega), tr4, st4, ok2, lk, er, vm, by omega⟩
    · rw [decide_eq_false ca]
      refine iteT ?_
      have al0 : 0 < al.length := List.length_pos_iff.mpr ca
      obtain ⟨ta, f1, f2⟩ := id tra4
      have alen : al.length < 2 ^ 20 := by
        have := cn.len
        omega
      refine ⟨_, rfl, _, rfl, _, rfl, q1, _, rfl, .inl (SqL.of f1), ?_⟩
      refine ⟨g, b + 1 + i, al.length, by rw [List.length_map, f2.1]; rfl, g4, al0, by omega, by omega, fun H5 u bt5 g5 hu => ?_⟩
      obtain ⟨gx4, hgx4⟩ := g4.lst
      obtain ⟨t1, ht1⟩ : ∃ t1, ta[u]? = some t1 := get_of f2.1 hu
      obtain ⟨m, hm'⟩ : ∃ m, al[u]? = some m := get_of rfl hu
      have can : Can ds S' m := (cn.mem m).mp (List.mem_of_getElem? hm')
      have hw := can.why tree ok2
      have h5m := bt5 _ _ (ne_lt hgx4 (f2.2 u t1 m ht1 hm')) (f2.2 u t1 m ht1 hm')
      refine ⟨q1, _, _, .ref t1, rfl, rfl, SqL.of (bt5 _ _ nq1g f1), atI_nat (by rw [List.getElem?_map, ht1]; rfl), ?_⟩
      have st5 := st4.but hgx4 bt5
      have tr5 := tr4.but hgx4 npg bt5
      have bt05 := bt4.trans bt5
      refine ⟨_, rfl, _, rfl, _, rfl, a, sa, t1, n, ds, S', m, rfl, hH.but hgx bt05, tree, by omega, st5, ok2, h5m, can.vm, fun w0 hw0 => (by rw [hw] at hw0; cases hw0), fun _ H6 q2 s' s6 hq2 st6 => ?_⟩
      refine ⟨q2, _, _, .ref s', rfl, rfl, SqL.of hq2, atI_nat (j := 1) rfl, ?_⟩
      obtain ⟨tl, e1, e2⟩ := tr5.same s6
      have g6 := g5.same s6
      refine ⟨_, rfl, .inl ⟨rfl, _, SqL.of e1⟩, _, rfl, p, _, _, rfl, rfl, e1, by rw [List.length_map, e2.1]; exact small1000 (by omega), ?_⟩
      have btp : But p H6 (upd H6 p (.lst (tl.map V.ref ++ [.ref t1]))) := But.upd (But.refl _ _) _
      refine ⟨l ++ [m], s', nxt ds S' m, _, _, _, rfl, (bt05.trans s6.but).at np _, (g6.at npg).mono (by omega), ⟨tl ++ [t1], by rw [upd_same, List.map_append]; rfl, (e2.append (TL.one (s6 _ _ h5m))).but e1 btp⟩, st6.but e1 btp, ok2.nxt tree can.vm, by rw [nxt_len]; exact lk, runs_snoc l 0 S S' er hw, fun m' hm' => ?_, by simp; omega⟩
      rcases List.mem_append.mp hm' with h | h
      · exact vm m' h
      · rw [List.mem_singleton] at h
        rw [h, ← lk]
        exact can.vm
  · rintro σ H2 ⟨l, sa, S', y5, y6, y7, rfl, bt, g2, tr, st2, ok2, lk, er, vm, ll⟩
    refine ⟨_, rfl, _, rfl, by show 2 ≤ sizeLine; decide, fun q0 nq0 => ?_⟩
    have s3 := Same.upd (o := .lst [.ref p, .ref sa]) nq0
    exact q _ q0 p sa l S' (bt.trans s3.but) ((g2.same s3).mono (by omega)) upd_same (tr.same s3) npg vm (by omega) er (st2.same s3) ok2 lk
end
end K5

namespace K5
open PySem PySem.Spec PyProof.Rows L2
/-! two people: bits turned on a path -/
def turn (p L : List Nat) : List Nat := (List.range L.length).map fun d => if d ∈ p then 1 - L.getD d 0 else L.getD d 0
theorem turn_len (p L : List Nat) : (turn p L).length = L.length := by simp [turn]
theorem turn_get {p L : List Nat} {d x : Nat} (h : L[d]? = some x) : (turn p L)[d]? = some (if d ∈ p then 1 - x else x) := by
  have hl : d < L.length := (List.getElem?_eq_some_iff.mp h).1
  unfold turn
  rw [List.getElem?_map, List.getElem?_range hl]
  have e : L.getD d 0 = x := by rw [List.getD_eq_getElem?_getD, h]; rfl
  show some (if d ∈ p then 1 - L.getD d 0 else L.getD d 0) = _
  rw [e]
theorem turn_two {p L : List Nat} (h : ∀ x ∈ L, x < 2) : ∀ x ∈ turn p L, x < 2 := by
  intro x hx
  obtain ⟨d, hd⟩ := List.getElem?_of_mem hx
  have hl : d < L.length := by have := (List.getElem?_eq_some_iff.mp hd).1; rwa [turn_len] at this
  obtain ⟨y, hy⟩ : ∃ y, L[d]? = some y := ⟨_, List.getElem?_eq_getElem hl⟩
  rw [turn_get hy] at hd
  have := h y (List.mem_of_getElem? hy)
  split at hd <;> cases hd <;> omega
theorem turn_turn {p L : List Nat} (h : ∀ x ∈ L, x < 2) : turn p (turn p L) = L := by
  apply List.ext_getElem?
  intro d
  by_cases hl : d < L.length
  · obtain ⟨y, hy⟩ : ∃ y, L[d]? = some y := ⟨_, List.getElem?_eq_getElem hl⟩
    have := h y (List.mem_of_getElem? hy)
    rw [turn_get (turn_get hy), hy]
    congr 1
    split <;> rename_i c
    · omega
    · rfl
  · rw [List.getElem?_eq_none (by rw [turn_len, turn_len]; omega), List.getElem?_eq_none (by omega)]
theorem turn_mem {p q L : List Nat} (h : ∀ d, d ∈ p ↔ d ∈ q) : turn p L = turn q L := by
  unfold turn
  congr 1
  funext d
  by_cases c : d ∈ p
  · rw [if_pos c, if_pos ((h d).mp c)]
  · rw [if_neg c, if_neg fun z => c ((h d).mpr z)]
section
variable {n : Nat} {ds : List (Nat × Nat)}
/-- a step toggles the way between two rooms at its door -/
theorem way_toggle (T : Tree n ds) {a a' b d : Nat} {p p' : List Nat} (j : Joins ds d a a') (w : Walk ds a p b) (np : p.Nodup) (w' : Walk ds a' p' b) (np' : p'.Nodup) (e : Nat) : e ∈ p' ↔ ((e ∈ p ∧ e ≠ d) ∨ (e ∉ p ∧ e = d)) := by
  obtain ⟨side, s1, s2⟩ := T.side
  have h1 := way_uses T s1 s2 (d := e) w np
  have h2 := way_uses T s1 s2 (d := e) w' np'
  by_cases c : e = d
  · subst c
    have hj := side_join s1 j
    rw [h2]
    rw [h1]
    cases ha : side e a <;> cases hb : side e b <;> cases ha' : side e a' <;> simp_all
  · have hs := side_other s2 j c
    rw [h2, h1, ← hs]
    simp [c]
theorem turn_step (T : Tree n ds) {a a' b d y : Nat} {p p' L : List Nat} (j : Joins ds d a a') (w : Walk ds a p b) (np : p.Nodup) (w' : Walk ds a' p' b) (np' : p'.Nodup) (hL : L[d]? = some y) (hy : y < 2) : turn p' (L.set d (1 - y)) = turn p L := by
  apply List.ext_getElem?
  intro e
  have tg := way_toggle T j w np w' np' e
  by_cases hl : e < L.length
  · obtain ⟨z, hz⟩ : ∃ z, L[e]? = some z := ⟨_, List.getElem?_eq_getElem hl⟩
    by_cases c : e = d
    · subst c
      rw [hL] at hz
      cases hz
      have hs : (L.set e (1 - y))[e]? = some (1 - y) := by rw [List.getElem?_set_self hl]
      rw [turn_get hs, turn_get hL]
      congr 1
      by_cases m : e ∈ p
      · rw [if_pos m, if_neg fun z => by have := tg.mp z; simp [m] at this]
      · rw [if_neg m, if_pos (tg.mpr (.inr ⟨m, rfl⟩))]
        omega
    · have hs : (L.set d (1 - y))[e]? = some z := by rw [List.getElem?_set_ne (Ne.symm c)]; exact hz
      rw [turn_get hs, turn_get hz]
      congr 1
      by_cases m : e ∈ p
      · rw [if_pos m, if_pos (tg.mpr (.inl ⟨m, c⟩))]
      · rw [if_neg m, if_neg fun z => by have := tg.mp z; simp [m, c] at this]
  · rw [List.getElem?_eq_none (by rw [turn_len, List.length_set]; omega), List.getElem?_eq_none (by rw [turn_len]; omega)]
theorem Walk.cut : ∀ {a : Nat} (p1 : List Nat) {p2 : List Nat} {b : Nat}, Walk ds a (p1 ++ p2) b → ∃ r, Walk ds a p1 r ∧ Walk ds r p2 b
  | a, [], _, _, w => ⟨a, .nil _, w⟩
  | _, _ :: p1, _, _, .cons j w => by
    obtain ⟨r, h1, h2⟩ := Walk.cut p1 w
    exact ⟨r, .cons j h1, h2⟩
theorem zero_one (β : Nat → Nat) : ∀ p : List Nat, (∀ d ∈ p, β d < 2) → (p.map β).Pairwise (· ≤ ·) → ∃ p1 p2, p = p1 ++ p2 ∧ (∀ d ∈ p1, β d = 0) ∧ ∀ d ∈ p2, β d = 1
  | [], _, _ => ⟨[], [], rfl, (fun _ h => nomatch h), (fun _ h => nomatch h)⟩
  | d :: r, h, s => by
    rw [List.map_cons, List.pairwise_cons] at s
    have hd := h d List.mem_cons_self
    by_cases c : β d = 0
    · obtain ⟨p1, p2, rfl, h1, h2⟩ := zero_one β r (fun x hx => h x (List.mem_cons_of_mem _ hx)) s.2
      refine ⟨d :: p1, p2, rfl, fun x hx => ?_, h2⟩
      rcases List.mem_cons.mp hx with rfl | hx
      · exact c
      · exact h1 x hx
    · refine ⟨[], d :: r, rfl, (fun _ h => nomatch h), fun x hx => ?_⟩
      have hx2 := h x hx
      rcases List.mem_cons.mp hx with rfl | hx
      · omega
      · have := s.1 (β x) (List.mem_map.mpr ⟨x, hx, rfl⟩)
        omega
theorem Joins.end_of {d x y z z' : Nat} (j : Joins ds d x y) (k : Joins ds d z z') : z' = x ∨ z' = y := by
  rcases j with j | j <;> rcases k with k | k <;> (rw [j] at k; cases k; simp)
/-- rooms fall in three parts by two doors of a way, not in four -/
theorem three_parts {side : Nat → Nat → Bool} (s1 : ∀ d e, ds[d]? = some e → side d e.1 ≠ side d e.2) (s2 : ∀ c d e, ds[d]? = some e → c ≠ d → side c e.1 = side c e.2) {a b e1 e2 x y x' y' : Nat}
    (j1 : Joins ds e1 x y) (j2 : Joins ds e2 x' y') (ne : e1 ≠ e2) (hx : side e2 x = side e2 a) (hy' : side e1 y' = side e1 b) (n1 : side e1 a ≠ side e1 b) (n2 : side e2 a ≠ side e2 b) :
    ∀ {c : Nat} {u : List Nat} {r : Nat}, Walk ds c u r → ¬ (side e1 c = side e1 a ∧ side e2 c = side e2 b) → ¬ (side e1 r = side e1 a ∧ side e2 r = side e2 b)
  | _, _, _, .nil _, h => h
  | c, _, _, .cons (d := d) (c := z) j w, h => by
    refine three_parts s1 s2 j1 j2 ne hx hy' n1 n2 w ?_
    rintro ⟨h1, h2⟩
    by_cases c1 : d = e1
    · subst c1
      have hxy := side_other s2 j1 (c := e2) ne.symm
      rcases j1.end_of j with rfl | rfl
      · exact n2 (hx.symm.trans h2)
      · exact n2 ((hxy.symm.trans hx).symm.trans h2)
    · by_cases c2 : d = e2
      · subst c2
        have hxy := side_other s2 j2 (c := e1) ne
        rcases j2.end_of j with rfl | rfl
        · exact n1 (h1.symm.trans (hxy.trans hy'))
        · exact n1 (h1.symm.trans hy')
      · exact h ⟨(side_other s2 j (Ne.symm c1)).trans h1, (side_other s2 j (Ne.symm c2)).trans h2⟩
theorem share_iff (T : Tree n ds) {a b : Nat} {p : List Nat} (w : Walk ds a p b) (np : p.Nodup) (β bars : Nat → Nat) (hβ : ∀ d ∈ p, β d < 2) (hb : ∀ d ∈ p, bars d = 1 - β d) :
    (∃ r, (∃ u, Walk ds a u r ∧ ∀ d ∈ u, bars d ≠ 0) ∧ ∃ v, Walk ds b v r ∧ ∀ d ∈ v, bars d ≠ 1) ↔ (p.map β).Pairwise (· ≤ ·) := by
  constructor
  · rintro ⟨r, ⟨u, wu, hu⟩, v, wv, hv⟩
    obtain ⟨side, s1, s2⟩ := T.side
    have key : ∀ d ∈ p, (side d r = side d a → β d = 1) ∧ (side d r ≠ side d a → β d = 0) := by
      intro d hd
      have hd2 := hβ d hd
      have hbd := hb d hd
      have ne := (way_uses T s1 s2 w np).mp hd
      refine ⟨fun h => ?_, fun h => ?_⟩
      · have : d ∈ v := Classical.byContradiction fun z => ne (h.symm.trans (side_walk s2 wv z).symm)
        have := hv d this
        omega
      · have : d ∈ u := Classical.byContradiction fun z => h (side_walk s2 wu z).symm
        have := hu d this
        omega
    have main : ∀ (q p1 : List Nat), p = p1 ++ q → (q.map β).Pairwise (· ≤ ·) := by
      intro q
      induction q with
      | nil => intro _ _; exact List.Pairwise.nil
      | cons e1 p2 ih =>
        intro p1 hp
        rw [List.map_cons, List.pairwise_cons]
        refine ⟨fun z hz => ?_, ih (p1 ++ [e1]) (by rw [hp]; simp)⟩
        obtain ⟨e2, he2, rfl⟩ := List.mem_map.mp hz
        have m1 : e1 ∈ p := by rw [hp]; simp
        have m2 : e2 ∈ p := by rw [hp]; simp [he2]
        obtain ⟨k1, k2⟩ := key e1 m1
        obtain ⟨l1, l2⟩ := key e2 m2
        have nd : p1.Nodup ∧ (e1 :: p2).Nodup ∧ ∀ x ∈ p1, ∀ y ∈ e1 :: p2, x ≠ y := by
          rw [hp] at np
          exact List.nodup_append.mp np
        obtain ⟨nd1, nd2, nd3⟩ := nd
        rw [List.nodup_cons] at nd2
        have ne : e1 ≠ e2 := fun z => nd2.1 (z ▸ he2)
        have n1 := (way_uses T s1 s2 w np).mp m1
        have n2 := (way_uses T s1 s2 w np).mp m2
        by_cases c : side e1 r = side e1 a
        · by_cases c2 : side e2 r = side e2 a
          · rw [k1 c, l1 c2]
            exact Nat.le_refl _
          · have w' := w
            rw [hp] at w'
            obtain ⟨x, wx, wr⟩ := Walk.cut p1 w'
            obtain ⟨q1, q2, hq⟩ := List.append_of_mem he2
            rw [hq] at wr
            cases wr with
            | cons j1 wr =>
              obtain ⟨x', wx', wr'⟩ := Walk.cut q1 wr
              cases wr' with
              | cons j2 wy =>
                have n3 : e2 ∉ p1 := fun z => nd3 e2 z e2 (List.mem_cons_of_mem _ he2) rfl
                have n4 : e1 ∉ q2 := fun z => nd2.1 (by rw [hq]; exact List.mem_append_right _ (List.mem_cons_of_mem _ z))
                refine absurd ⟨c, ?_⟩ (three_parts s1 s2 j1 j2 ne (side_walk s2 wx n3).symm (side_walk s2 wy n4) n1 n2 wu fun h => n2 h.2)
                cases hr : side e2 r <;> cases ha : side e2 a <;> cases hb' : side e2 b <;> simp_all
        · rw [k2 c]
          exact Nat.zero_le _
    exact main p [] rfl
  · intro s
    obtain ⟨p1, p2, rfl, h1, h2⟩ := zero_one β p hβ s
    obtain ⟨r, w1, w2⟩ := Walk.cut p1 w
    refine ⟨r, ⟨p1, w1, fun d hd => ?_⟩, p2.reverse, w2.rev, fun d hd => ?_⟩
    · have := hb d (List.mem_append_left _ hd)
      have := h1 d hd
      omega
    · have hd := List.mem_reverse.mp hd
      have := hb d (List.mem_append_right _ hd)
      have := h2 d hd
      omega
end
end K5

namespace K5
open PySem PySem.Spec PyProof.Rows L2
def Two (L : List Nat) : Prop := ∀ x ∈ L, x < 2
def along (p β : List Nat) : List Nat := p.map fun d => β.getD d 0
def dL (l : List Nat) : PyData := .list (dIs l)
theorem eqvAll_is : ∀ l m : List Nat, PyData.eqvAll (dIs l) (dIs m) = decide (l = m)
  | [], [] => by simp [dIs, PyData.eqvAll]
  | [], _ :: _ => by simp [dIs, PyData.eqvAll]
  | _ :: _, [] => by simp [dIs, PyData.eqvAll]
  | x :: l, y :: m => by
    have ih := eqvAll_is l m
    have hx : (((x : Int) == (y : Int)) : Bool) = decide (x = y) := by
      by_cases c : x = y
      · subst c; simp
      · rw [decide_eq_false c]
        simp
        omega
    unfold dIs at ih ⊢
    simp only [List.map_cons, PyData.eqvAll, PyData.eqv, ih, hx]
    by_cases c : x = y <;> by_cases d : l = m <;> simp [c, d]
theorem dL_eqv (l m : List Nat) : PyData.eqv (dL l) (dL m) = decide (l = m) := by
  show PyData.eqv (.list (dIs l)) (.list (dIs m)) = _
  rw [PyData.eqv]
  exact eqvAll_is l m
theorem dL_shaped (l : List Nat) : SeqAt.shaped (dL l) = true := by
  have h := dIs_depth l
  refine shaped_mk ?_ ?_
  · simp only [dL, PyData.canLay0]
    exact dIs_lay l
  · simp only [dL, PyData.depth]
    omega
theorem dp_L {K : PySem.W.Frag} {H : Hp} {q : Addr} {l : List Nat} (h : SqL K H q (nv l)) : Dp K H (.ref q) (dL l) := .lst h (dp_is l)
def spNeedPair (K : PySem.W.Frag) : Sp := fun vs H Q _ => ∃ (s : Addr) (S : S2), vs = [.ref s] ∧ StateAt K H s S ∧ S.1.length = 2 ∧ Q .non H
def spNeedBits (K : PySem.W.Frag) : Sp := fun vs H Q _ => ∃ (a bp : Addr) (ds : List (Nat × Nat)) (β : List Nat), vs = [.ref a, .ref bp] ∧ HouseAt K H a ds ∧ SqT K H bp (nv β) ∧ β.length = ds.length ∧ Two β ∧ ds.length ≤ 1000 ∧ ∀ H', Same H H' → Q .non H'
def spNeedBR (K : PySem.W.Frag) : Sp := fun vs H Q _ => ∃ (a bp : Addr) (ds : List (Nat × Nat)) (n x y : Nat) (β : List Nat), vs = [.ref a, .ref bp, .int (x : Int), .int (y : Int)] ∧ HouseAt K H a ds ∧ Tree n ds ∧ n ≤ 1000 ∧ SqT K H bp (nv β) ∧ β.length = ds.length ∧ Two β ∧ x < n ∧ y < n ∧ ∀ H', Same H H' → Q .non H'
def spTurn (K : PySem.W.Frag) : Sp := fun vs H Q _ => ∃ (a bp : Addr) (ds : List (Nat × Nat)) (n x y : Nat) (β : List Nat), vs = [.ref a, .ref bp, .int (x : Int), .int (y : Int)] ∧ HouseAt K H a ds ∧ Tree n ds ∧ n ≤ 1000 ∧ SqT K H bp (nv β) ∧ β.length = ds.length ∧ Two β ∧ x < n ∧ y < n ∧
  ∀ (H' : Hp) (q : Addr) (p : List Nat), Same H H' → SqT K H' q (nv (turn p β)) → Walk ds x p y → p.Nodup → Q (.ref q) H'
def spKept (K : PySem.W.Frag) : Sp := fun vs H Q _ => ∃ (a s : Addr) (ds : List (Nat × Nat)) (n x y : Nat) (S : S2), vs = [.ref a, .ref s] ∧ HouseAt K H a ds ∧ Tree n ds ∧ n ≤ 1000 ∧ StateAt K H s S ∧ StOk n ds S ∧ S.1 = [x, y] ∧
  ∀ (H' : Hp) (q : Addr) (p : List Nat), Same H H' → SqT K H' q (nv (turn p S.2)) → Walk ds x p y → p.Nodup → Q (.ref q) H'
def spSOB (K : PySem.W.Frag) : Sp := fun vs H Q _ => ∃ (a bp : Addr) (ds : List (Nat × Nat)) (n x y : Nat) (β : List Nat), vs = [.ref a, .ref bp, .int (x : Int), .int (y : Int)] ∧ HouseAt K H a ds ∧ Tree n ds ∧ n ≤ 1000 ∧ SqT K H bp (nv β) ∧ β.length = ds.length ∧ Two β ∧ x < n ∧ y < n ∧
  ∀ (H' : Hp) (q : Addr) (p : List Nat), Same H H' → StateAt K H' q ([x, y], turn p β) → Walk ds x p y → p.Nodup → Q (.ref q) H'
def spAlong (K : PySem.W.Frag) : Sp := fun vs H Q _ => ∃ (a bp : Addr) (ds : List (Nat × Nat)) (n x y : Nat) (β : List Nat), vs = [.ref a, .ref bp, .int (x : Int), .int (y : Int)] ∧ HouseAt K H a ds ∧ Tree n ds ∧ n ≤ 1000 ∧ SqT K H bp (nv β) ∧ β.length = ds.length ∧ x < n ∧ y < n ∧
  ∀ (H' : Hp) (q : Addr) (p : List Nat), Same H H' → H q = none → H' q = some (.lst (nv (along p β))) → Walk ds x p y → p.Nodup → p.length ≤ n → Q (.ref q) H'
def spCan (K : PySem.W.Frag) (R : Nat → Nat → Prop) [DecidableRel R] : Sp := fun vs H Q _ => ∃ (a bp : Addr) (ds : List (Nat × Nat)) (n x y : Nat) (β : List Nat), vs = [.ref a, .ref bp, .int (x : Int), .int (y : Int)] ∧ HouseAt K H a ds ∧ Tree n ds ∧ n ≤ 60 ∧ SqT K H bp (nv β) ∧ β.length = ds.length ∧ Two β ∧ x < n ∧ y < n ∧
  ∀ (H' : Hp) (p : List Nat), Same H H' → Walk ds x p y → p.Nodup → Q (.bl (decide ((along p β).Pairwise R))) H'
theorem inV_nv (x : Nat) (l : List Nat) : inV (.int (x : Int)) (nv l) = decide (x ∈ l) := by
  induction l with
  | nil => rfl
  | cons a r ih =>
    show (((a : Int) == (x : Int)) || inV (.int (x : Int)) (nv r)) = _
    rw [ih]
    by_cases h : x = a
    · subst h
      simp
    · have e1 : ((a : Int) == (x : Int)) = false := beq_eq_false_iff_ne.mpr (by omega)
      rw [e1]
      simp [h]
theorem flat_nv (l : List Nat) : (nv l).all flatV = true := by
  induction l with
  | nil => rfl
  | cons a r ih => exact ih
theorem ne_self (v : V) : (!decide (v = v)) = false := by simp
section
variable {P : Program} {w : World} {K : PySem.W.Frag}
      {mg : Str → Option Value} {base : Heap}
theorem path_lt {n : Nat} {ds : List (Nat × Nat)} (T : Tree n ds) : ∀ {a : Nat} {p : List Nat} {b : Nat}, Walk ds a p b → ∀ d ∈ p, d < ds.length
  | _, _, _, .nil _, d, h => nomatch h
  | _, _, _, .cons j w, d, h => by
    rcases List.mem_cons.mp h with rfl | h
    · have := T.len
      have := (j.lt T).2.2.1
      omega
    · exact path_lt T w d h
theorem path_len {n : Nat} {ds : List (Nat × Nat)} (T : Tree n ds) {a : Nat} {p : List Nat} {b : Nat} (w : Walk ds a p b) (nd : p.Nodup) : p.length ≤ ds.length := nodup_le ds.length p nd (path_lt T w)
theorem ok_need_pair (T : Bl mg) (D : Def K mg "need_pair" s_need_pair) : Cal P w K mg base "need_pair" ["state"] 1 (spNeedPair K) := by
  refine D.ok sc_need_pair (fun _ _ _ _ _ _ us hl => match us, hl with | [_], _ => rfl) (fun vs H Q E h => ?_) (fun f cdv A outer s H vs Q E hr h => ?_)
  · obtain ⟨s, S, rfl, _⟩ := h
    rfl
  obtain ⟨s, S, rfl, ⟨r, b, h1, h2, h3⟩, h4, q⟩ := h
  refine ⟨_, (pss_one (ps_if (pt_cmpR op_ne (pe_callB call_len_seq (by rfl) T.len PySem.boot_len (pa_cons (pe_ix ix_tup (pv 0) pe_int (fun _ _ => rfl)) pa_nil)) pe_int (nomark _)) pss_never pss_nil)), ?_⟩
  refine ⟨_, rfl, s, _, _, _, rfl, rfl, h1, atI_nat (j := 0) rfl, _, _, rfl, .inr h2, rfl, _, rfl, ?_⟩
  have e : ((nv S.1).length : Int) = 2 := by rw [nv_len, h4]; rfl
  rw [e]
  exact iteF q
theorem ok_need_bits (T : Bl mg) (D : Def K mg "need_bits" s_need_bits) (C_is_index : Cal P w K mg base "is_index" ["value", "count"] 2 spIndex) : Cal P w K mg base "need_bits" ["house", "bits"] 3 (spNeedBits K) := by
  refine D.ok sc_need_bits (fun _ _ _ _ _ _ us hl => match us, hl with | [_, _], _ => rfl) (fun vs H Q E h => ?_) (fun f cdv A outer s H vs Q E hr h => ?_)
  · obtain ⟨a, bp, ds, β, rfl, _⟩ := h
    rfl
  obtain ⟨a, bp, ds, β, rfl, hH, hb, hl, two, hd, q⟩ := h
  obtain ⟨rs, hrs, hlen, _⟩ := id hH
  obtain ⟨f_is_index, fd_is_index, g_is_index, k_is_index, b_is_index, G_is_index⟩ := C_is_index
  refine ⟨_, (pss_one (ps_if (PW.pt (pw_or (pt_not (pt_val (pe_callB call_isi (by rfl) T.isinstance (by decide +kernel) (pa_cons (pv 1) (pa_cons (pe_bltn (v := .ty "tuple") (u := .type "tuple") (by rfl) T.tuple (by decide +kernel) rfl) pa_nil))))) (pw_or (pt_cmpR op_ne (pe_callB call_len_seq (by rfl) T.len PySem.boot_len (pa_cons (pv 1) pa_nil)) (pe_callB call_len_seq (by rfl) T.len PySem.boot_len (pa_cons (pv 0) pa_nil)) (nomark _)) (pw_or1 (pt_not (pt_val (pe_callB (cr_all rfl) (by rfl) T.all (by decide +kernel) (pa_cons (pe_lc (own := [("bit", 2)]) (g := gName 2)  rfl sc_need_bits.nd (pi_tup (pv 1)) (blkOk_by (N := N_need_bits) (sc := defScope s_need_bits) (own := [("bit", 2)]) (by decide +kernel)) (fun _ _ _ _ _ => (pg_name (i := 2) sc_need_bits.nd rfl (.inl rfl) (.inr rfl))) (fun _ _ _ _ _ => pts_nil) (fun _ _ _ _ _ => (pe_call G_is_index (hr.mono (by decide)) (by rfl) g_is_index k_is_index b_is_index .nil pass0 (pa_cons (pv 2) (pa_cons pe_int pa_nil))))) pa_nil)))))))) pss_never pss_nil)), ?_⟩
  refine ⟨_, rfl, _, _, _, _, _, rfl, .ty _, ty_tup hb, kit_ty (r := true) (by decide +kernel), _, rfl, iteF ?_⟩
  refine ⟨_, rfl, _, _, rfl, .inr hb, _, rfl, _, _, rfl, .inr hrs, rfl, _, rfl, ?_⟩
  have e : ((nv β).length : Int) = ((rs.map V.ref).length : Int) := by rw [nv_len, List.length_map, hlen, hl]
  rw [e, ne_self]
  refine iteF ?_
  refine ⟨_, rfl, bp, rfl, ⟨_, hb⟩, fun pd npd => ?_⟩
  refine lc_it (walk_tup (K := K) (a := bp) (xs := nv β)) (fun i H1 => Same H H1 ∧ H1 pd = some (.lst ((List.replicate i true).map V.bl))) ⟨Same.upd npd, upd_same⟩ (fun i H1 _ h => h.1.tup hb) ?_ ?_
  · rintro i x H1 H2 hi ⟨sm, hp⟩ ⟨rfl, ex⟩
    rw [nv_len] at hi
    obtain ⟨v, hv, rfl⟩ := nv_some ex
    have hv2 := two v (List.mem_of_getElem? hv)
    refine ⟨rfl, lcYes ?_⟩
    refine ⟨_, rfl, (v : Int), 2, rfl, ?_⟩
    rw [decide_eq_true (show (0 : Int) ≤ v ∧ (v : Int) < 2 from ⟨by omega, by omega⟩)]
    refine ⟨_, hp, by rw [List.length_map, List.length_replicate]; exact small1000 (by omega), sm.at npd, ?_⟩
    rw [upd_same, List.replicate_succ', List.map_append]
    rfl
  · rintro H1 ⟨sm, hp⟩
    refine ⟨pd, _, rfl, SqL.of hp, _, rfl, ?_⟩
    rw [show ((List.replicate (nv β).length true).all id) = true from by simp]
    exact iteF (q H1 sm)
theorem ok_need_bits_and_rooms (T : Bl mg) (D : Def K mg "need_bits_and_rooms" s_need_bits_and_rooms) (C_need_house : Cal P w K mg base "need_house" ["house"] 5 (spRing K)) (C_need_bits : Cal P w K mg base "need_bits" ["house", "bits"] 3 (spNeedBits K))
    (C_need_room : Cal P w K mg base "need_room" ["house", "room"] 3 (spNeedRoom K)) : Cal P w K mg base "need_bits_and_rooms" ["house", "bits", "a", "b"] 6 (spNeedBR K) := by
  refine D.ok sc_need_bits_and_rooms (fun _ _ _ _ _ _ us hl => match us, hl with | [_, _, _, _], _ => rfl) (fun vs H Q E h => ?_) (fun f cdv A outer s H vs Q E hr h => ?_)
  · obtain ⟨a, bp, ds, n, x, y, β, rfl, _⟩ := h
    rfl
  obtain ⟨a, bp, ds, n, x, y, β, rfl, hH, tree, hn, hb, hl, two, hx, hy, q⟩ := h
  have hdn := tree.len
  obtain ⟨f_need_house, fd_need_house, g_need_house, k_need_house, b_need_house, G_need_house⟩ := C_need_house
  obtain ⟨f_need_bits, fd_need_bits, g_need_bits, k_need_bits, b_need_bits, G_need_bits⟩ := C_need_bits
  obtain ⟨f_need_room, fd_need_room, g_need_room, k_need_room, b_need_room, G_need_room⟩ := C_need_room
  refine ⟨_, (pss_cons (ps_expr (pe_call G_need_house (hr.mono (by decide)) (by rfl) g_need_house k_need_house b_need_house .nil pass0 (pa_cons (pv 0) pa_nil)))
    (pss_cons (ps_expr (pe_call G_need_bits (hr.mono (by decide)) (by rfl) g_need_bits k_need_bits b_need_bits .nil pass0 (pa_cons (pv 0) (pa_cons (pv 1) pa_nil))))
    (pss_cons (ps_expr (pe_call G_need_room (hr.mono (by decide)) (by rfl) g_need_room k_need_room b_need_room .nil pass0 (pa_cons (pv 0) (pa_cons (pv 2) pa_nil))))
    (pss_one (ps_expr (pe_call G_need_room (hr.mono (by decide)) (by rfl) g_need_room k_need_room b_need_room .nil pass0 (pa_cons (pv 0) (pa_cons (pv 3) pa_nil)))))))), ?_⟩
  refine ⟨_, rfl, a, ds, n, rfl, hH, tree, hn, fun H1 s1 => ?_⟩
  refine ⟨_, rfl, _, rfl, a, bp, ds, β, rfl, hH.same s1, s1.tup hb, hl, two, by omega, fun H2 s2 => ?_⟩
  have s12 := s1.trans s2
  refine ⟨_, rfl, _, rfl, a, ds, _, rfl, hH.same s12, by omega, by omega, ?_⟩
  refine ⟨_, rfl, _, rfl, a, ds, _, rfl, hH.same s12, by omega, by omega, ?_⟩
  exact q H2 s12
theorem ok_turned_on_path (T : Bl mg) (D : Def K mg "turned_on_path" s_turned_on_path) (C_doors_between : Cal P w K mg base "doors_between" ["house", "a", "b"] 4 (spPath K)) : Cal P w K mg base "turned_on_path" ["house", "persons", "a", "b"] 5 (spTurn K) := by
  refine D.ok sc_turned_on_path (fun _ _ _ _ _ _ us hl => match us, hl with | [_, _, _, _], _ => rfl) (fun vs H Q E h => ?_) (fun f cdv A outer s H vs Q E hr h => ?_)
  · obtain ⟨a, bp, ds, n, x, y, β, rfl, _⟩ := h
    rfl
  obtain ⟨a, bp, ds, n, x, y, β, rfl, hH, tree, hn, hb, hl, two, hx, hy, q⟩ := h
  have hdn := tree.len
  obtain ⟨f_doors_between, fd_doors_between, g_doors_between, k_doors_between, b_doors_between, G_doors_between⟩ := C_doors_between
  refine ⟨_, (pss_cons (ps_set (i := 4) sc_turned_on_path.nd rfl (.inr rfl) (pe_call G_doors_between (hr.mono (by decide)) (by rfl) g_doors_between k_doors_between b_doors_between .nil pass0 (pa_cons (pv 0) (pa_cons (pv 2) (pa_cons (pv 3) pa_nil)))))
    (pss_one (ps_ret (pe_callTy call_tuple_of (by rfl) T.tuple (by decide +kernel) (pa_cons (pe_lc (own := [("door", 5), ("person", 6)]) (g := gTup K 2 (gCons (gName 5) (gCons (gName 6) gNil)))  (te := (tIf (tTest (tOp (rIn K false) (tVar 5) (tVar 4))) (tOp (rI0 fun i j => .int (i - j)) (tC (.int 1)) (tVar 6)) (tVar 6))) rfl sc_turned_on_path.nd (pi_enumT (by rfl) T.enumerate (pa_cons (pv 1) pa_nil)) (blkOk_by (N := N_turned_on_path) (sc := defScope s_turned_on_path) (own := [("door", 5), ("person", 6)]) (by decide +kernel)) (fun _ _ _ _ _ => (pg_tup (n := 2) rfl (pgs_cons (pg_name (i := 5) sc_turned_on_path.nd rfl (.inl rfl) (.inr rfl)) (pgs_cons (pg_name (i := 6) sc_turned_on_path.nd rfl (.inl rfl) (.inr rfl)) pgs_nil)))) (fun _ _ _ _ _ => pts_nil) (fun _ _ _ _ _ => (pe_ifExp (pt_cmpR op_in_seq (pv 5) (pv 4) (by rfl)) (pe_op op_sub pe_int (pv 6)) (pv 6)))) pa_nil))))), ?_⟩
  refine ⟨_, rfl, _, rfl, _, rfl, a, ds, n, x, y, rfl, hH, tree, hn, hx, hy, fun H1 pb p s1 npb hpb wk nd => ?_⟩
  refine ⟨_, rfl, bp, _, rfl, s1.tup hb, fun pd npd => ?_⟩
  refine lc_it (walk_enumT (K := K) (a := bp) (xs := nv β)) (fun i H2 => Same H1 H2 ∧ H2 pd = some (.lst (nv ((turn p β).take i)))) ⟨Same.upd npd, upd_same⟩ (fun i H2 _ h => (s1.trans h.1).tup hb) ?_ ?_
  · rintro i v H2 H3 hi ⟨sm, hp⟩ ⟨t, x1, x2, rfl, nt, rfl, ex1, ex2⟩
    cases ex1
    rw [nv_len] at hi
    obtain ⟨z, hz, rfl⟩ := nv_some ex2
    have hz2 := two z (List.mem_of_getElem? hz)
    have st := Same.upd (o := .tup [.int (i : Nat), .int (z : Int)]) nt
    have hp4 := st _ _ hp
    refine ⟨t, _, rfl, SqT.of upd_same, rfl, _, _, rfl, _, _, rfl, rfl, rfl, lcYes ?_⟩
    refine ⟨_, rfl, _, rfl, pb, _, rfl, .inl (SqL.of (st _ _ (sm _ _ hpb))), rfl, ?_⟩
    refine ⟨flat_nv p, _, rfl, ?_⟩
    have hi2 : i < (turn p β).length := by rw [turn_len]; exact hi
    have tk : (turn p β).take (i + 1) = (turn p β).take i ++ [if i ∈ p then 1 - z else z] := by rw [List.take_add_one, turn_get hz]; rfl
    have lt : ((turn p β).take i).length ≤ 1000 := by rw [List.length_take]; exact Nat.le_trans (Nat.min_le_left _ _) (by omega)
    show if inV (V.int (i : Int)) (nv p) = true then _ else _
    rw [inV_nv]
    by_cases c : i ∈ p
    · rw [decide_eq_true c]
      refine iteT ⟨_, rfl, _, _, rfl, rfl, ?_⟩
      refine ⟨_, hp4, by rw [nv_len]; exact small1000 lt, (sm.trans st).at npd, ?_⟩
      rw [upd_same, tk, if_pos c, nv_snoc]
      have e : (1 : Int) - (z : Int) = ((1 - z : Nat) : Int) := by omega
      show some (HO.lst (nv ((turn p β).take i) ++ [V.int ((1 : Int) - (z : Int))])) = _
      rw [e]
    · rw [decide_eq_false c]
      refine iteF ⟨_, rfl, ?_⟩
      refine ⟨_, hp4, by rw [nv_len]; exact small1000 lt, (sm.trans st).at npd, ?_⟩
      rw [upd_same, tk, if_neg c, nv_snoc]
  · rintro H2 ⟨sm, hp⟩
    rw [nv_len, List.take_of_length_le (Nat.le_of_eq (turn_len p β))] at hp
    refine ⟨pd, _, rfl, .inl ⟨SqL.of hp, fun t1 nt1 => ?_⟩⟩
    exact q _ t1 p ((s1.trans sm).trans (Same.upd nt1)) (SqT.of upd_same) wk nd
theorem ok_kept_bits (T : Bl mg) (D : Def K mg "kept_bits" s_kept_bits) (C_need_state : Cal P w K mg base "need_state" ["house", "state"] 7 (spSt K)) (C_need_pair : Cal P w K mg base "need_pair" ["state"] 1 (spNeedPair K))
    (C_turned_on_path : Cal P w K mg base "turned_on_path" ["house", "persons", "a", "b"] 5 (spTurn K)) : Cal P w K mg base "kept_bits" ["house", "state"] 8 (spKept K) := by
  refine D.ok sc_kept_bits (fun _ _ _ _ _ _ us hl => match us, hl with | [_, _], _ => rfl) (fun vs H Q E h => ?_) (fun f cdv A outer s H vs Q E hr h => ?_)
  · obtain ⟨a, s, ds, n, x, y, S, rfl, _⟩ := h
    rfl
  obtain ⟨a, s, ds, n, x, y, S, rfl, hH, tree, hn, st, ok, hS, q⟩ := h
  obtain ⟨r, b, h1, h2, h3⟩ := id st
  have hx : x < n := ok.rooms x (by rw [hS]; simp)
  have hy : y < n := ok.rooms y (by rw [hS]; simp)
  have two : Two S.2 := fun z hz => by
    have := ok.bars z hz
    rw [hS] at this
    exact this
  obtain ⟨f_need_state, fd_need_state, g_need_state, k_need_state, b_need_state, G_need_state⟩ := C_need_state
  obtain ⟨f_need_pair, fd_need_pair, g_need_pair, k_need_pair, b_need_pair, G_need_pair⟩ := C_need_pair
  obtain ⟨f_turned_on_path, fd_turned_on_path, g_turned_on_path, k_turned_on_path, b_turned_on_path, G_turned_on_path⟩ := C_turned_on_path
  refine ⟨_, (pss_cons (ps_expr (pe_call G_need_state (hr.mono (by decide)) (by rfl) g_need_state k_need_state b_need_state .nil pass0 (pa_cons (pv 0) (pa_cons (pv 1) pa_nil))))
    (pss_cons (ps_expr (pe_call G_need_pair (hr.mono (by decide)) (by rfl) g_need_pair k_need_pair b_need_pair .nil pass0 (pa_cons (pv 1) pa_nil)))
    (pss_cons (ps_asg (pe_ix ix_tup (pv 1) pe_int (fun _ _ => rfl)) (pg_tup (n := 2) rfl (pgs_cons (pg_name (i := 2) sc_kept_bits.nd rfl (.inl rfl)) (pgs_cons (pg_name (i := 3) sc_kept_bits.nd rfl (.inl rfl)) pgs_nil))))
    (pss_one (ps_ret (pe_call G_turned_on_path (hr.mono (by decide)) (by rfl) g_turned_on_path k_turned_on_path b_turned_on_path .nil pass0 (pa_cons (pv 0) (pa_cons (pe_ix ix_tup (pv 1) pe_int (fun _ _ => rfl)) (pa_cons (pv 2) (pa_cons (pv 3) pa_nil)))))))))), ?_⟩
  refine ⟨_, rfl, _, rfl, a, s, ds, n, S, rfl, hH, tree, hn, st, ok, fun H1 s1 => ?_⟩
  refine ⟨_, rfl, s, S, rfl, st.same s1, by rw [hS]; rfl, ?_⟩
  have h2' := s1.tup h2
  rw [hS] at h2'
  refine ⟨_, rfl, s, _, _, _, rfl, rfl, s1.tup h1, atI_nat (j := 0) rfl, r, _, rfl, h2', rfl, _, _, rfl, _, _, rfl, rfl, ?_⟩
  refine ⟨_, rfl, _, rfl, s, _, _, _, rfl, rfl, s1.tup h1, atI_nat (j := 1) rfl, _, rfl, _, rfl, a, b, ds, n, x, y, S.2, rfl, hH.same s1, tree, hn, s1.tup h3, ok.doors, two, hx, hy, fun H2 q2 p s2 hq2 wk nd => ?_⟩
  exact q H2 q2 p (s1.trans s2) hq2 wk nd
theorem ok_state_of_bits (T : Bl mg) (D : Def K mg "state_of_bits" s_state_of_bits) (C_need_bits_and_rooms : Cal P w K mg base "need_bits_and_rooms" ["house", "bits", "a", "b"] 6 (spNeedBR K))
    (C_turned_on_path : Cal P w K mg base "turned_on_path" ["house", "persons", "a", "b"] 5 (spTurn K)) : Cal P w K mg base "state_of_bits" ["house", "bits", "a", "b"] 7 (spSOB K) := by
  refine D.ok sc_state_of_bits (fun _ _ _ _ _ _ us hl => match us, hl with | [_, _, _, _], _ => rfl) (fun vs H Q E h => ?_) (fun f cdv A outer s H vs Q E hr h => ?_)
  · obtain ⟨a, bp, ds, n, x, y, β, rfl, _⟩ := h
    rfl
  obtain ⟨a, bp, ds, n, x, y, β, rfl, hH, tree, hn, hb, hl, two, hx, hy, q⟩ := h
  obtain ⟨f_need_bits_and_rooms, fd_need_bits_and_rooms, g_need_bits_and_rooms, k_need_bits_and_rooms, b_need_bits_and_rooms, G_need_bits_and_rooms⟩ := C_need_bits_and_rooms
  obtain ⟨f_turned_on_path, fd_turned_on_path, g_turned_on_path, k_turned_on_path, b_turned_on_path, G_turned_on_path⟩ := C_turned_on_path
  refine ⟨_, (pss_cons (ps_expr (pe_call G_need_bits_and_rooms (hr.mono (by decide)) (by rfl) g_need_bits_and_rooms k_need_bits_and_rooms b_need_bits_and_rooms .nil pass0 (pa_cons (pv 0) (pa_cons (pv 1) (pa_cons (pv 2) (pa_cons (pv 3) pa_nil))))))
    (pss_one (ps_ret (pe_tup (pa_cons (pe_tup (pa_cons (pv 2) (pa_cons (pv 3) pa_nil))) (pa_cons (pe_call G_turned_on_path (hr.mono (by decide)) (by rfl) g_turned_on_path k_turned_on_path b_turned_on_path .nil pass0 (pa_cons (pv 0) (pa_cons (pv 1) (pa_cons (pv 2) (pa_cons (pv 3) pa_nil))))) pa_nil)))))), ?_⟩
  refine ⟨_, rfl, _, rfl, _, rfl, _, rfl, a, bp, ds, n, x, y, β, rfl, hH, tree, hn, hb, hl, two, hx, hy, fun H1 s1 => ?_⟩
  refine ⟨_, rfl, _, rfl, by show 2 ≤ sizeLine; decide, fun t1 nt1 => ?_⟩
  have s2 := s1.trans (Same.upd (o := .tup [.int (x : Int), .int (y : Int)]) nt1)
  have ht1 : (upd H1 t1 (.tup [.int (x : Int), .int (y : Int)])) t1 = some (.tup [.int (x : Int), .int (y : Int)]) := upd_same
  generalize upd H1 t1 (.tup [.int (x : Int), .int (y : Int)]) = H2 at s2 ht1
  refine ⟨_, rfl, _, rfl, _, rfl, _, rfl, a, bp, ds, n, x, y, β, rfl, hH.same s2, tree, hn, s2.tup hb, hl, two, hx, hy, fun H3 q3 p s3 hq3 wk nd => ?_⟩
  refine ⟨by show 2 ≤ sizeLine; decide, fun t4 nt4 => ?_⟩
  have s4 := Same.upd (o := .tup [.ref t1, .ref q3]) nt4
  exact q _ t4 p ((s2.trans s3).trans s4) ⟨t1, q3, SqT.of upd_same, SqT.of (s4 _ _ (s3 _ _ ht1)), s4.tup hq3⟩ wk nd
theorem ok_bits_along (T : Bl mg) (D : Def K mg "bits_along" s_bits_along) (C_doors_between : Cal P w K mg base "doors_between" ["house", "a", "b"] 4 (spPath K)) : Cal P w K mg base "bits_along" ["house", "bits", "a", "b"] 5 (spAlong K) := by
  refine D.ok sc_bits_along (fun _ _ _ _ _ _ us hl => match us, hl with | [_, _, _, _], _ => rfl) (fun vs H Q E h => ?_) (fun f cdv A outer s H vs Q E hr h => ?_)
  · obtain ⟨a, bp, ds, n, x, y, β, rfl, _⟩ := h
    rfl
  obtain ⟨a, bp, ds, n, x, y, β, rfl, hH, tree, hn, hb, hl, hx, hy, q⟩ := h
  have hdn := tree.len
  obtain ⟨f_doors_between, fd_doors_between, g_doors_between, k_doors_between, b_doors_between, G_doors_between⟩ := C_doors_between
  refine ⟨_, (pss_one (ps_ret (pe_lc (own := [("door", 4)]) (g := gName 4)  (te := (tOp (rIxT K) (tVar 1) (tVar 4))) rfl sc_bits_along.nd (pi_list (pe_call G_doors_between (hr.mono (by decide)) (by rfl) g_doors_between k_doors_between b_doors_between .nil pass0 (pa_cons (pv 0) (pa_cons (pv 2) (pa_cons (pv 3) pa_nil))))) (blkOk_by (N := N_bits_along) (sc := defScope s_bits_along) (own := [("door", 4)]) (by decide +kernel)) (fun _ _ _ _ _ => (pg_name (i := 4) sc_bits_along.nd rfl (.inl rfl) (.inr rfl))) (fun _ _ _ _ _ => pts_nil) (fun _ _ _ _ _ => (pe_ix ix_tup (pv 1) (pv 4) (fun _ _ => rfl)))))), ?_⟩
  refine ⟨_, rfl, _, rfl, _, rfl, a, ds, n, x, y, rfl, hH, tree, hn, hx, hy, fun H1 pb p s1 npb hpb wk nd => ?_⟩
  have hpl := path_len tree wk nd
  refine ⟨pb, rfl, ⟨_, SqL.of hpb⟩, fun pd npd => ?_⟩
  refine lc_it (walk_list (K := K) (a := pb) (xs := nv p)) (fun i H2 => Same H1 H2 ∧ H2 pd = some (.lst (nv (along (p.take i) β)))) ⟨Same.upd npd, upd_same⟩ (fun i H2 _ h => SqL.of (h.1 _ _ hpb)) ?_ ?_
  · rintro i v H2 H3 hi ⟨sm, hp⟩ ⟨rfl, ex⟩
    rw [nv_len] at hi
    obtain ⟨d, hd, rfl⟩ := nv_some ex
    have hdl := path_lt tree wk d (List.mem_of_getElem? hd)
    obtain ⟨z, hz⟩ : ∃ z, β[d]? = some z := get_of hl hdl
    refine ⟨rfl, lcYes ?_⟩
    refine ⟨_, rfl, _, rfl, bp, _, _, _, rfl, rfl, (s1.trans sm).tup hb, nv_at hz, ?_⟩
    refine ⟨_, hp, ?_, sm.at npd, ?_⟩
    · rw [nv_len, along, List.length_map, List.length_take]
      exact small1000 (Nat.le_trans (Nat.min_le_left _ _) (by omega))
    · have e : β.getD d 0 = z := by rw [List.getD_eq_getElem?_getD, hz]; rfl
      have tk : p.take (i + 1) = p.take i ++ [d] := by rw [List.take_add_one, hd]; rfl
      have ta : along (p.take i ++ [d]) β = along (p.take i) β ++ [z] := by
        unfold along
        rw [List.map_append, List.map_singleton, e]
      rw [upd_same, tk, ta, nv_snoc]
  · rintro H2 ⟨sm, hp⟩
    rw [nv_len, List.take_length] at hp
    exact q H2 pd p (s1.trans sm) (s1.free npd) hp wk nd (by omega)
end
end K5

namespace K5
open PySem PySem.Spec PyProof.Rows L2
theorem le_unique : ∀ (l m : List Nat), l.Perm m → l.Pairwise (· ≤ ·) → m.Pairwise (· ≤ ·) → l = m
  | [], m, p, _, _ => p.symm.eq_nil.symm
  | a :: r, [], p, _, _ => by have := p.eq_nil; cases this
  | a :: r, b :: s, p, h1, h2 => by
    obtain ⟨h1a, h1b⟩ := List.pairwise_cons.mp h1
    obtain ⟨h2a, h2b⟩ := List.pairwise_cons.mp h2
    have e : a = b := by
      rcases List.mem_cons.mp (p.mem_iff.mp List.mem_cons_self) with e | q
      · exact e
      · rcases List.mem_cons.mp (p.symm.mem_iff.mp List.mem_cons_self) with e | q2
        · exact e.symm
        · have := h1a b q2
          have := h2a a q
          omega
    subst e
    rw [le_unique r s ((List.perm_cons a).mp p) h1b h2b]
theorem ge_unique (l m : List Nat) (p : l.Perm m) (h1 : l.Pairwise (· ≥ ·)) (h2 : m.Pairwise (· ≥ ·)) : l = m := by
  have e := le_unique l.reverse m.reverse ((List.reverse_perm l).trans (p.trans (List.reverse_perm m).symm)) (List.pairwise_reverse.mpr h1) (List.pairwise_reverse.mpr h2)
  exact List.reverse_inj.mp e
/-- what a sort of natural numbers gives -/
theorem sort_nat {L : List Nat} {ns' : List Int} (pm : ns'.Perm (L.map fun x : Nat => (x : Int))) : ∃ M : List Nat, ns' = (M.map fun x : Nat => (x : Int)) ∧ M.Perm L := by
  obtain ⟨M, e, p⟩ := perm_of_map _ _ _ pm
  exact ⟨M, e, p⟩
section
variable {P : Program} {w : World} {K : PySem.W.Frag}
      {mg : Str → Option Value} {base : Heap}
theorem ok_can_meet (T : Bl mg) (D : Def K mg "can_meet" s_can_meet) (C_need_bits_and_rooms : Cal P w K mg base "need_bits_and_rooms" ["house", "bits", "a", "b"] 6 (spNeedBR K)) (C_bits_along : Cal P w K mg base "bits_along" ["house", "bits", "a", "b"] 5 (spAlong K)) :
    Cal P w K mg base "can_meet" ["house", "bits", "a", "b"] 7 (spCan K (· ≤ ·)) := by
  refine D.ok sc_can_meet (fun _ _ _ _ _ _ us hl => match us, hl with | [_, _, _, _], _ => rfl) (fun vs H Q E h => ?_) (fun f cdv A outer s H vs Q E hr h => ?_)
  · obtain ⟨a, bp, ds, n, x, y, β, rfl, _⟩ := h
    rfl
  obtain ⟨a, bp, ds, n, x, y, β, rfl, hH, tree, hn, hb, hl, two, hx, hy, q⟩ := h
  obtain ⟨f_need_bits_and_rooms, fd_need_bits_and_rooms, g_need_bits_and_rooms, k_need_bits_and_rooms, b_need_bits_and_rooms, G_need_bits_and_rooms⟩ := C_need_bits_and_rooms
  obtain ⟨f_bits_along, fd_bits_along, g_bits_along, k_bits_along, b_bits_along, G_bits_along⟩ := C_bits_along
  refine ⟨_, (pss_cons (ps_expr (pe_call G_need_bits_and_rooms (hr.mono (by decide)) (by rfl) g_need_bits_and_rooms k_need_bits_and_rooms b_need_bits_and_rooms .nil pass0 (pa_cons (pv 0) (pa_cons (pv 1) (pa_cons (pv 2) (pa_cons (pv 3) pa_nil))))))
    (pss_cons (ps_set (i := 4) sc_can_meet.nd rfl (.inl rfl) (pe_call G_bits_along (hr.mono (by decide)) (by rfl) g_bits_along k_bits_along b_bits_along .nil pass0 (pa_cons (pv 0) (pa_cons (pv 1) (pa_cons (pv 2) (pa_cons (pv 3) pa_nil))))))
    (pss_one (ps_ret (pe_cmpR (op_eqD hr.units) (pv 4) (pe_callB cr_sorted (by rfl) T.sorted (by decide +kernel) (pa_cons (pv 4) pa_nil)) (nomark _)))))), ?_⟩
  refine ⟨_, rfl, _, rfl, _, rfl, _, rfl, a, bp, ds, n, x, y, β, rfl, hH, tree, by omega, hb, hl, two, hx, hy, fun H1 s1 => ?_⟩
  refine ⟨_, rfl, _, rfl, _, rfl, _, rfl, a, bp, ds, n, x, y, β, rfl, hH.same s1, tree, by omega, s1.tup hb, hl, hx, hy, fun H2 q2 p s2 nq2 hq2 wk nd hpl => ?_⟩
  have lal : (along p β).length ≤ n := by rw [along, List.length_map]; exact hpl
  refine ⟨_, rfl, _, rfl, q2, (along p β).map (fun x : Nat => (x : Int)), rfl, by rw [← nv_int]; exact SqL.of hq2, by rw [List.length_map]; omega, fun ns' p' pm pw np' => ?_⟩
  obtain ⟨M, rfl, pM⟩ := sort_nat pm
  have sM : M.Pairwise (· ≤ ·) := by
    rw [List.pairwise_map] at pw
    exact pw.imp fun h => by omega
  have s3 := Same.upd (o := .lst ((M.map fun x : Nat => (x : Int)).map V.int)) np'
  have hp3 : (upd H2 p' (.lst ((M.map fun x : Nat => (x : Int)).map V.int))) p' = some (.lst (nv M)) := by rw [upd_same, nv_int]
  refine ⟨dL (along p β), dL M, dp_L (SqL.of (s3 _ _ hq2)), dp_L (SqL.of hp3), dL_shaped _, dL_shaped _, ?_⟩
  rw [dL_eqv]
  have e : decide (along p β = M) = decide ((along p β).Pairwise (· ≤ ·)) := by
    by_cases c : (along p β).Pairwise (· ≤ ·)
    · rw [decide_eq_true c, decide_eq_true (le_unique _ _ pM.symm c sM)]
    · rw [decide_eq_false c, decide_eq_false (fun z : along p β = M => c (by rw [z]; exact sM))]
  rw [e]
  exact q _ p ((s1.trans s2).trans s3) wk nd
theorem ok_can_follow (T : Bl mg) (D : Def K mg "can_follow" s_can_follow) (C_need_bits_and_rooms : Cal P w K mg base "need_bits_and_rooms" ["house", "bits", "a", "b"] 6 (spNeedBR K)) (C_bits_along : Cal P w K mg base "bits_along" ["house", "bits", "a", "b"] 5 (spAlong K)) :
    Cal P w K mg base "can_follow" ["house", "bits", "a", "b"] 7 (spCan K (· ≥ ·)) := by
  refine D.ok sc_can_follow (fun _ _ _ _ _ _ us hl => match us, hl with | [_, _, _, _], _ => rfl) (fun vs H Q E h => ?_) (fun f cdv A outer s H vs Q E hr h => ?_)
  · obtain ⟨a, bp, ds, n, x, y, β, rfl, _⟩ := h
    rfl
  obtain ⟨a, bp, ds, n, x, y, β, rfl, hH, tree, hn, hb, hl, two, hx, hy, q⟩ := h
  obtain ⟨f_need_bits_and_rooms, fd_need_bits_and_rooms, g_need_bits_and_rooms, k_need_bits_and_rooms, b_need_bits_and_rooms, G_need_bits_and_rooms⟩ := C_need_bits_and_rooms
  obtain ⟨f_bits_along, fd_bits_along, g_bits_along, k_bits_along, b_bits_along, G_bits_along⟩ := C_bits_along
  refine ⟨_, (pss_cons (ps_expr (pe_call G_need_bits_and_rooms (hr.mono (by decide)) (by rfl) g_need_bits_and_rooms k_need_bits_and_rooms b_need_bits_and_rooms .nil pass0 (pa_cons (pv 0) (pa_cons (pv 1) (pa_cons (pv 2) (pa_cons (pv 3) pa_nil))))))
    (pss_cons (ps_set (i := 4) sc_can_follow.nd rfl (.inl rfl) (pe_call G_bits_along (hr.mono (by decide)) (by rfl) g_bits_along k_bits_along b_bits_along .nil pass0 (pa_cons (pv 0) (pa_cons (pv 1) (pa_cons (pv 2) (pa_cons (pv 3) pa_nil))))))
    (pss_one (ps_ret (pe_cmpR (op_eqD hr.units) (pv 4) (pe_callBK (cr_sortedRev (b := true)) (by rfl) T.sorted (by decide +kernel) (pa_cons (pv 4) pa_nil) (pk_cons pe_bl pk_nil)) (nomark _)))))), ?_⟩
  refine ⟨_, rfl, _, rfl, _, rfl, _, rfl, a, bp, ds, n, x, y, β, rfl, hH, tree, by omega, hb, hl, two, hx, hy, fun H1 s1 => ?_⟩
  refine ⟨_, rfl, _, rfl, _, rfl, _, rfl, a, bp, ds, n, x, y, β, rfl, hH.same s1, tree, by omega, s1.tup hb, hl, hx, hy, fun H2 q2 p s2 nq2 hq2 wk nd hpl => ?_⟩
  have lal : (along p β).length ≤ n := by rw [along, List.length_map]; exact hpl
  refine ⟨_, rfl, _, rfl, q2, (along p β).map (fun x : Nat => (x : Int)), rfl, rfl, by rw [← nv_int]; exact SqL.of hq2, fun ns' p' pm pw np' => ?_⟩
  obtain ⟨M, rfl, pM⟩ := sort_nat pm
  have sM : M.Pairwise (· ≥ ·) := by
    have pw : (M.map fun x : Nat => (x : Int)).Pairwise (· ≥ ·) := pw
    rw [List.pairwise_map] at pw
    exact pw.imp fun h => by omega
  have s3 := Same.upd (o := .lst ((M.map fun x : Nat => (x : Int)).map V.int)) np'
  have hp3 : (upd H2 p' (.lst ((M.map fun x : Nat => (x : Int)).map V.int))) p' = some (.lst (nv M)) := by rw [upd_same, nv_int]
  refine ⟨dL (along p β), dL M, dp_L (SqL.of (s3 _ _ hq2)), dp_L (SqL.of hp3), dL_shaped _, dL_shaped _, ?_⟩
  rw [dL_eqv]
  have e : decide (along p β = M) = decide ((along p β).Pairwise (· ≥ ·)) := by
    by_cases c : (along p β).Pairwise (· ≥ ·)
    · rw [decide_eq_true c, decide_eq_true (ge_unique _ _ pM.symm c sM)]
    · rw [decide_eq_false c, decide_eq_false (fun z : along p β = M => c (by rw [z]; exact sM))]
  rw [e]
  exact q _ p ((s1.trans s2).trans s3) wk nd
end
end K5

namespace K5
open PySem PySem.Spec PyProof.Rows L2
theorem dL_nil (l : List Nat) : PyData.eqv (dL l) (dL []) = decide (l = []) := dL_eqv l []
/-- a way's step: None, or a tuple (room behind, door) -/
def WaySw (H : Hp) (v : V) (o : Option (Nat × Nat)) : Prop := match o with
  | none => v = .non
  | some e => ∃ t, v = .ref t ∧ H t = some (.tup [.int (e.2 : Int), .int (e.1 : Int)])
theorem WaySw.keep {H H' : Hp} {v o} (h : WaySw H v o) (s : ∀ t xs, H t = some (.tup xs) → H' t = some (.tup xs)) : WaySw H' v o := by
  cases o with
  | none => exact h
  | some e =>
    obtain ⟨t, a, b⟩ := h
    exact ⟨t, a, s _ _ b⟩
structure WT (Hb H : Hp) (pw pq : Addr) (ks : List (Nat × Option (Nat × Nat))) (ws : List Nat) : Prop where
  sm : Same Hb H
  w : ∃ kvs, H pw = some (.dK kvs) ∧ DicR (WaySw H) kvs ks
  q : H pq = some (.lst (nv ws))
  le : ws.length ≤ ks.length
theorem WT.ne {Hb H pw pq ks ws} (S : WT Hb H pw pq ks ws) : pw ≠ pq := by
  obtain ⟨kvs, h, _⟩ := S.w
  exact ne_of h S.q (by intro z; cases z)
theorem WT.same {Hb H H' pw pq ks ws} (S : WT Hb H pw pq ks ws) (s : Same H H') : WT Hb H' pw pq ks ws := by
  obtain ⟨kvs, h, r⟩ := S.w
  exact ⟨S.sm.trans s, ⟨kvs, s _ _ h, r.mono fun v o x => x.keep fun t xs e => s _ _ e⟩, s _ _ S.q, S.le⟩
theorem WT.setq {Hb H pw pq ks ws ws'} (S : WT Hb H pw pq ks ws) (nq : Hb pq = none) (hl : ws'.length ≤ ks.length) : WT Hb (upd H pq (.lst (nv ws'))) pw pq ks ws' := by
  obtain ⟨kvs, h, r⟩ := S.w
  refine ⟨S.sm.at nq, ⟨kvs, by rw [upd_ne S.ne]; exact h, r.mono fun v o x => x.keep fun t xs e => ?_⟩, upd_same, hl⟩
  rw [upd_ne (ne_lt S.q e)]
  exact e
theorem WT.add {Hb H pw pq ks ws} (S : WT Hb H pw pq ks ws) (nw : Hb pw = none) {t : Addr} (nt : H t = none) {kvs} (hk : H pw = some (.dK kvs)) (r : DicR (WaySw H) kvs ks) {y d here : Nat} (ny : y ∉ ks.map Prod.fst) :
    WT Hb (upd (upd H t (.tup [.int (here : Int), .int (d : Int)])) pw (.dK (putK kvs (Sum.inl (y : Int)) (.ref t)))) pw pq (ks ++ [(y, some (d, here))]) ws := by
  have ntw : t ≠ pw := (ne_of_none hk nt).symm
  refine ⟨(S.sm.trans (Same.upd nt)).at nw, ⟨_, upd_same, (r.mono fun v o x => x.keep fun t' xs e => ?_).add ny ⟨t, rfl, by rw [upd_ne ntw, upd_same]⟩⟩, ?_, by rw [List.length_append]; exact Nat.le_trans S.le (Nat.le_add_right _ _)⟩
  · rw [upd_ne (ne_of e hk (by intro z; cases z)), upd_ne (ne_of_none e nt)]
    exact e
  · rw [upd_ne S.ne.symm, upd_ne (ne_of_none S.q nt)]
    exact S.q
section
variable {P : Program} {w : World} {K : PySem.W.Frag}
      {mg : Str → Option Value} {base : Heap}
theorem ok_way (T : Bl mg) (D : Def K mg "_law_way" s_l_way) (C_l_neighbours : Cal P w K mg base "_law_neighbours" ["_law_doors", "_law_place"] 1 (spNeigh K)) : Cal P w K mg base "_law_way" ["_law_doors", "_law_start", "_law_end"] 2 (spPath K) := by
  refine D.ok sc_l_way (fun _ _ _ _ _ _ us hl => match us, hl with | [_, _, _], _ => rfl) (fun vs H Q E h => ?_) (fun f cdv A outer s H vs Q E hr h => ?_)
  · obtain ⟨a, ds, n, x, y, rfl, _⟩ := h
    rfl
  obtain ⟨a, ds, n, x, y, rfl, hH, tree, hn, hx, hy, q⟩ := h
  have hdn := tree.len
  obtain ⟨f_l_neighbours, fd_l_neighbours, g_l_neighbours, k_l_neighbours, b_l_neighbours, G_l_neighbours⟩ := C_l_neighbours
  refine ⟨_, (pss_cons (ps_set (i := 3) sc_l_way.nd rfl (.inl rfl) (pe_disp (pps_cons (pv 1) pe_non pps_nil) (by rfl) (by rfl) (fun z => by cases z) (by decide)))
    (pss_cons (ps_set (i := 4) sc_l_way.nd rfl (.inl rfl) (pe_lst (pa_cons (pv 1) pa_nil)))
    (pss_cons (ps_while PassesOwn.never (pt_cmpR (op_neD hr.units) (pv 4) (pe_lst pa_nil) (nomark _)) (pss_cons (ps_set (i := 5) sc_l_way.nd rfl (.inl rfl) (pe_bm0 PySem.F.plainAttrs_list PySem.F.slot_list_pop PySem.F.type_list_pop mt_pop (pv 4)))
    (pss_one (ps_for PassesOwn.never rfl (pi_list (pe_call G_l_neighbours (hr.mono (by decide)) (by rfl) g_l_neighbours k_l_neighbours b_l_neighbours .nil pass0 (pa_cons (pv 0) (pa_cons (pv 5) pa_nil)))) (pg_tup (n := 2) rfl (pgs_cons (pg_name (i := 6) sc_l_way.nd rfl (.inl rfl)) (pgs_cons (pg_name (i := 7) sc_l_way.nd rfl (.inl rfl)) pgs_nil)))
    (pss_one (ps_if (pt_cmp (pc_dnotin (hu_of hr) (pv 6) (pv 3))) (pss_cons (ps_dput (hu_of hr) (pv 3) (pv 6) (pe_tup (pa_cons (pv 5) (pa_cons (pv 7) pa_nil))) rfl)
    (pss_one (ps_expr (pe_bm PySem.F.plainAttrs_list PySem.F.slot_list_append PySem.F.type_list_append mt_append (pv 4) (pa_cons (pv 6) pa_nil))))) pss_nil))))))
    (pss_cons (ps_set (i := 8) sc_l_way.nd rfl (.inl rfl) (pe_lst pa_nil))
    (pss_cons (ps_while PassesOwn.never (pt_cmpR op_notN (pe_dget (hu_of hr) (pv 3) (pv 2) (fun _ _ => rfl)) pe_non (nomark _)) (pss_cons (ps_asg (pe_dget (hu_of hr) (pv 3) (pv 2) (fun _ _ => rfl)) (pg_tup (n := 2) rfl (pgs_cons (pg_name (i := 2) sc_l_way.nd rfl (.inl rfl)) (pgs_cons (pg_name (i := 7) sc_l_way.nd rfl (.inl rfl)) pgs_nil))))
    (pss_one (ps_expr (pe_bm PySem.F.plainAttrs_list PySem.F.slot_list_append PySem.F.type_list_append mt_append (pv 8) (pa_cons (pv 7) pa_nil))))))
    (pss_one (ps_ret (pe_revL (pv 8))))))))), ?_⟩
  intro pw npw
  refine ⟨_, rfl, upd_same, [(Sum.inl (x : Int), .non)], rfl, (by show 1 ≤ 15; decide), ?_⟩
  rw [upd_upd]
  refine ⟨_, rfl, by show 1 ≤ sizeLine; decide, fun pq npq => ?_⟩
  have npw2 : pw ≠ pq := fun z => by
    subst z
    rw [upd_same] at npq
    cases npq
  have npq2 : H pq = none := by
    rw [upd_ne npw2.symm] at npq
    exact npq
  have S0 : WT H (upd (upd H pw (.dK (mergeK [] [(Sum.inl (x : Int), .non)]))) pq (.lst [.int (x : Int)])) pw pq [(x, none)] [x] :=
    ⟨(Same.upd npw).at npq2, ⟨[(Sum.inl (x : Int), .non)], by rw [upd_ne npw2, upd_same]; rfl, .cons ⟨rfl, rfl⟩ .nil⟩, by rw [upd_same]; rfl, Nat.le_refl _⟩
  generalize (upd (upd H pw (.dK (mergeK [] [(Sum.inl (x : Int), .non)]))) pq (.lst [.int (x : Int)])) = H3 at S0
  refine ⟨fun m σ H4 => ∃ ks ws y5 y6 y7, m = 2 * (n - ks.length) + ws.length ∧ σ = [some (.ref a), some (.int (x : Int)), some (.int (y : Int)), some (.ref pw), some (.ref pq), y5, y6, y7, none] ∧
      WT H H4 pw pq ks ws ∧ Dfs n ds [] (ks.map Prod.fst) ws ∧ Ptr ds [] x ks ∧ x ∈ ks.map Prod.fst,
    ⟨_, [(x, none)], [x], _, _, _, rfl, rfl, S0, Dfs.start hx, Ptr.start, List.mem_singleton.mpr rfl⟩, fun m σ H4 hW => ?_⟩
  obtain ⟨ks, ws, y5, y6, y7, rfl, rfl, S1, df, pt, hxm⟩ := hW
  refine ⟨_, rfl, Nat.zero_le _, fun e0 ne0 => ?_⟩
  have S := S1.same (Same.upd (o := .lst []) ne0)
  refine ⟨dL ws, dL [], dp_L (SqL.of S.q), dp_L (l := []) (SqL.of upd_same), dL_shaped _, dL_shaped [], _, rfl, ?_⟩
  generalize upd H4 e0 (.lst []) = H5 at S
  rw [dL_nil]
  rcases snoc_nil ws with rfl | ⟨wr, here, rfl⟩
  · refine iteF ?_
    have hle := df.le
    rw [List.length_map] at hle
    refine ⟨Nat.zero_le _, fun pp npp => ?_⟩
    have SP := S.same (Same.upd (o := .lst []) npp)
    have hpp : (upd H5 pp (.lst [])) pp = some (.lst []) := upd_same
    have npp0 := S.sm.free npp
    generalize upd H5 pp (.lst []) = H6 at SP hpp
    have hyk := df.all tree hxm y hy
    obtain ⟨kvs, hk, r⟩ := SP.w
    refine ⟨fun m σ H1 => ∃ here path y7, m = (ks.map Prod.fst).idxOf here ∧ σ = [some (.ref a), some (.int (x : Int)), some (.int (here : Int)), some (.ref pw), some (.ref pq), y5, y6, y7, some (.ref pp)] ∧ But pp H6 H1 ∧ H1 pp = some (.lst (nv path)) ∧
      Made ds (ks.map Prod.fst) y path here ∧ here ∈ ks.map Prod.fst ∧ path.length + (ks.map Prod.fst).idxOf here ≤ ks.length,
      ⟨_, y, [], _, rfl, rfl, (Same.refl _).but, hpp, Made.start, hyk, ?_⟩, fun m σ H1 hW => ?_⟩
    · have := List.idxOf_lt_length_iff.mpr hyk
      rw [List.length_map] at this
      simp
      omega
    obtain ⟨here, path, y7', rfl, rfl, bt, hq, md, hh, hle2⟩ := hW
    obtain ⟨v, o, hv, hko, hw⟩ := r.val hh
    have npw3 : pw ≠ pp := ne_of hk hpp (by intro z; cases z)
    have hk1 := bt _ _ npw3 hk
    have hg : DGet H1 pw (.int (here : Int)) (some v) := by
      rw [← hv]
      exact DGet.k (k := Sum.inl (here : Int)) hk1
    refine ⟨_, rfl, _, rfl, pw, v, rfl, hg, rfl, _, rfl, ?_⟩
    cases o with
    | none =>
      have hw : v = .non := hw
      subst hw
      refine iteF ?_
      have hfin := pt.fin _ hko
      subst hfin
      refine ⟨_, rfl, pp, nv path, rfl, SqL.of hq, fun qq nqq => ?_⟩
      have s6 : Same H H1 := bt.same SP.sm npp0
      have er : (nv path).reverse = nv path.reverse := by
        unfold nv
        rw [List.map_reverse]
      refine q _ qq path.reverse (s6.trans (Same.upd nqq)) (s6.free nqq) (by rw [upd_same, er]) md.w.rev ((List.reverse_perm path).nodup_iff.mpr md.nd)
    | some e =>
      obtain ⟨t, rfl, ht⟩ := hw
      obtain ⟨j, ns, hy2, lt⟩ := pt.st here e.1 e.2 hko
      have ht1 := bt _ _ (ne_lt hpp ht) ht
      refine iteT ⟨fun σ' H' => ∃ here' path y7, (ks.map Prod.fst).idxOf here' < (ks.map Prod.fst).idxOf here ∧ σ' = [some (.ref a), some (.int (x : Int)), some (.int (here' : Int)), some (.ref pw), some (.ref pq), y5, y6, y7, some (.ref pp)] ∧ But pp H6 H' ∧ H' pp = some (.lst (nv path)) ∧
        Made ds (ks.map Prod.fst) y path here' ∧ here' ∈ ks.map Prod.fst ∧ path.length + (ks.map Prod.fst).idxOf here' ≤ ks.length, fun σ' H' ⟨h', p', z7, g1, g2⟩ => ⟨_, g1, h', p', z7, rfl, g2⟩, ?_⟩
      refine ⟨_, rfl, _, rfl, pw, V.ref t, rfl, hg, t, _, rfl, SqT.of ht1, rfl, _, _, rfl, _, _, rfl, rfl, ?_⟩
      refine ⟨_, rfl, .inl ⟨rfl, _, SqL.of hq⟩, _, rfl, pp, _, _, rfl, rfl, hq, by rw [nv_len]; exact small1000 (by omega), ?_⟩
      exact ⟨e.2, path ++ [e.1], _, lt, rfl, bt.upd _, by rw [upd_same, ← nv_snoc], md.step ⟨n, tree⟩ pt hko, hy2, by rw [List.length_append, List.length_singleton]; omega⟩
  · have e1 : decide (wr ++ [here] = []) = false := decide_eq_false (by simp)
    rw [e1]
    have hhere : here < n := df.lt _ (df.sub _ (List.mem_append.mpr (.inr (List.mem_singleton.mpr rfl))))
    have dfi := df.pop
    have hlast : (nv (wr ++ [here]))[(nv (wr ++ [here])).length - 1]? = some (.int (here : Int)) := by
      rw [nv_snoc, List.length_append, List.length_singleton, Nat.add_sub_cancel, List.getElem?_append_right (Nat.le_refl _), Nat.sub_self]
      rfl
    refine iteT ⟨fun σ' H' => ∃ ks' ws' y5 y6 y7, 2 * (n - ks'.length) + ws'.length < 2 * (n - ks.length) + (wr ++ [here]).length ∧ σ' = [some (.ref a), some (.int (x : Int)), some (.int (y : Int)), some (.ref pw), some (.ref pq), y5, y6, y7, none] ∧
      WT H H' pw pq ks' ws' ∧ Dfs n ds [] (ks'.map Prod.fst) ws' ∧ Ptr ds [] x ks' ∧ x ∈ ks'.map Prod.fst, fun σ' H' ⟨ks', ws', z7, z8, z9, h1, h2⟩ => ⟨_, h1, ks', ws', z7, z8, z9, rfl, h2⟩, ?_⟩
    refine ⟨_, rfl, .inl ⟨rfl, _, SqL.of S.q⟩, pq, _, _, rfl, rfl, S.q, hlast, ?_⟩
    rw [nv_snoc, List.dropLast_concat]
    have S1 := S.setq (ws' := wr) npq2 (by have := S.le; simp at this; omega)
    generalize upd H5 pq (.lst (nv wr)) = H6 at S1
    refine ⟨_, rfl, _, rfl, a, ds, n, here, rfl, hH.same S1.sm, tree, hn, fun H7 qn l sm7 nqn pl mem nod lle => ?_⟩
    obtain ⟨ts, g1, g2, g3⟩ := pl
    have S2 := S1.same sm7
    have nqnq : qn ≠ pq := (ne_of_none S1.q nqn).symm
    refine ⟨qn, rfl, ⟨_, SqL.of g1⟩, ?_⟩
    refine for_it (walk_list (K := K) (a := qn) (xs := ts.map V.ref)) (fun j σ H8 => ∃ ks' ws' y6 y7, 2 * (n - ks'.length) + ws'.length < 2 * (n - ks.length) + (wr ++ [here]).length ∧ σ = [some (.ref a), some (.int (x : Int)), some (.int (y : Int)), some (.ref pw), some (.ref pq), some (.int (here : Int)), y6, y7, none] ∧
      WT H H8 pw pq ks' ws' ∧ DfsIn n ds [] (ks'.map Prod.fst) ws' here ((l.take j).map fun e => (e.2, e.1)) ∧ Ptr ds [] x ks' ∧ x ∈ ks'.map Prod.fst ∧ H8 qn = some (.lst (ts.map V.ref)) ∧ ∀ (i : Nat) (t : Addr) (e : Nat × Nat), ts[i]? = some t → l[i]? = some e → H8 t = some (.tup [.int e.1, .int e.2]))
      ⟨ks, wr, _, _, by rw [List.length_append, List.length_singleton]; omega, rfl, S2, dfi, pt, hxm, g1, g3⟩ (fun i σ H1 _ ⟨_, _, _, _, _, _, _, _, _, _, h, _⟩ => SqL.of h) ?_ ?_
    · rintro j v H8s H8 H9 hj ⟨ks', ws', y6, y7, hm, rfl, S3, di, pt', hxm', hq8, t8⟩ ⟨rfl, ex1⟩
      have hj' : j < ts.length := by
        rw [List.length_map] at hj
        exact hj
      obtain ⟨t, ht⟩ : ∃ t, ts[j]? = some t := get_of rfl hj'
      obtain ⟨e, he⟩ : ∃ e, l[j]? = some e := get_of g2.symm hj'
      rw [List.getElem?_map, ht] at ex1
      cases ex1
      have htup := t8 j t e ht he
      have ejoin : Joins ds e.2 here e.1 := (mem e.1 e.2).mp (List.mem_of_getElem? he)
      have etake : (l.take (j + 1)).map (fun e => (e.2, e.1)) = (l.take j).map (fun e => (e.2, e.1)) ++ [(e.2, e.1)] := by
        rw [List.take_add_one, he, List.map_append]
        rfl
      obtain ⟨kvs, hk, r⟩ := S3.w
      refine ⟨t, _, rfl, SqT.of htup, rfl, _, _, rfl, _, _, rfl, rfl, ?_⟩
      refine ⟨_, rfl, _, rfl, pw, _, rfl, DGet.k (k := Sum.inl (e.1 : Int)) hk, _, rfl, ?_⟩
      by_cases hy' : e.1 ∈ ks'.map Prod.fst
      · obtain ⟨v, o, hv, _, _⟩ := r.val hy'
        rw [hv]
        refine iteF ?_
        exact ⟨ks', ws', _, _, hm, rfl, S3, by rw [etake]; exact di.skip (.inr hy'), pt', hxm', hq8, t8⟩
      · rw [r.no hy']
        refine iteT ?_
        have ely := (Joins.lt tree ejoin).2.1
        have di2 := di.add (d := e.2) ely hy'
        have hle := di2.le
        rw [List.length_append, List.length_singleton, List.length_map] at hle
        refine ⟨_, rfl, _, rfl, by show 2 ≤ sizeLine; decide, fun t2 nt2 => ⟨_, rfl, _, rfl, pw, _, rfl, DPut.k (k := Sum.inl (e.1 : Int)) (by rw [upd_ne (ne_of_none hk nt2)]; exact hk) (by rw [r.len]; exact small1000 (by omega)), ?_⟩⟩
        have SB := S3.add npw nt2 hk r (y := e.1) (d := e.2) (here := here) hy'
        have q9 : (upd (upd H9 t2 (.tup [.int (here : Int), .int (e.2 : Int)])) pw (.dK (putK kvs (Sum.inl (e.1 : Int)) (.ref t2)))) qn = some (.lst (ts.map V.ref)) := by
          rw [upd_ne (ne_of hq8 hk (by intro z; cases z)), upd_ne (ne_of_none hq8 nt2)]
          exact hq8
        have t9 : ∀ (i : Nat) (t : Addr) (e' : Nat × Nat), ts[i]? = some t → l[i]? = some e' → (upd (upd H9 t2 (.tup [.int (here : Int), .int (e.2 : Int)])) pw (.dK (putK kvs (Sum.inl (e.1 : Int)) (.ref t2)))) t = some (.tup [.int e'.1, .int e'.2]) := fun i t e' x y => by
          have z := t8 i t e' x y
          rw [upd_ne (ne_of z hk (by intro z; cases z)), upd_ne (ne_of_none z nt2)]
          exact z
        generalize (upd (upd H9 t2 (.tup [.int (here : Int), .int (e.2 : Int)])) pw (.dK (putK kvs (Sum.inl (e.1 : Int)) (.ref t2)))) = HA at SB q9 t9
        refine ⟨_, rfl, .inl ⟨rfl, _, SqL.of SB.q⟩, _, rfl, pq, _, _, rfl, rfl, SB.q, ?_, ?_⟩
        · rw [nv_len]
          have := S3.le
          exact small1000 (by omega)
        · rw [← nv_snoc]
          refine ⟨ks' ++ [(e.1, some (e.2, here))], ws' ++ [e.1], _, _, ?_, rfl, SB.setq npq2 (by have := S3.le; simp; omega), ?_, pt'.add ejoin.symm (fun z => nomatch z) di.he hy', ?_, ?_, fun i t e x y => ?_⟩
          · rw [List.length_append, List.length_append, List.length_singleton, List.length_singleton]
            omega
          · rw [etake, List.map_append]
            exact di2
          · rw [List.map_append]
            exact List.mem_append.mpr (.inl hxm')
          · rw [upd_ne nqnq]
            exact q9
          · rw [upd_ne (ne_lt SB.q (t9 i t e x y))]
            exact t9 i t e x y
    · rintro σ H8 ⟨ks', ws', y6, y7, hm, rfl, S3, di, pt', hxm', hq8, t8⟩
      refine ⟨ks', ws', _, _, _, hm, rfl, S3, di.done fun d y j => ?_, pt', hxm'⟩
      rw [List.length_map, g2, List.take_length]
      exact List.mem_map.mpr ⟨(y, d), (mem y d).mpr j, rfl⟩
end
end K5

namespace K5
open PySem PySem.Spec PyProof.Rows L2
/-- the doors that bar p -/
def barr (S : S2) (p : Nat) : List Nat := (List.range S.2.length).filter fun d => decide (S.2[d]? = some p)
theorem mem_barr {S : S2} {p d : Nat} : d ∈ barr S p ↔ S.2[d]? = some p := by
  unfold barr
  rw [List.mem_filter, List.mem_range]
  constructor
  · rintro ⟨_, h⟩
    exact of_decide_eq_true h
  · intro h
    exact ⟨get_lt h, decide_eq_true h⟩
theorem Dfs.front {n ds shut kl ws here} (h : Dfs n ds shut kl (here :: ws)) : DfsIn n ds shut kl ws here [] :=
  ⟨h.nd, h.lt, fun x m => h.sub x (List.mem_cons_of_mem _ m), fun x m nw ne d y j ns => h.cl x m (fun q => by
    rcases List.mem_cons.mp q with q | q
    · exact ne q
    · exact nw q) d y j ns, h.sub here List.mem_cons_self, fun d y m => nomatch m⟩
structure RegSet (ds : List (Nat × Nat)) (shut : List Nat) (room : Nat) (L : List Nat) : Prop where
  nd : L.Nodup
  mem : ∀ x, x ∈ L ↔ ∃ p, Walk ds room p x ∧ ∀ d ∈ p, d ∉ shut
theorem joins_ltK {ds : List (Nat × Nat)} {d x y : Nat} (j : Joins ds d x y) : d < ds.length := by
  rcases j with j | j <;> exact get_lt j
theorem getD_ofK {L : List Nat} {p v : Nat} (h : L[p]? = some v) : L.getD p 0 = v := by
  rw [List.getD_eq_getElem?_getD, h]
  rfl
theorem _root_.L2.But.tupN {K : PySem.W.Frag} {H H' : Hp} {g a : Addr} {xs : List V} (e : But g H H') (ng : H g = none) (h : SqT K H a xs) : SqT K H' a xs := by
  rcases h with (z | ⟨o, z⟩) | z
  · exact .inl (.inl (e _ _ (ne_of_none z ng) z))
  · exact .inl (.inr ⟨o, e _ _ (ne_of_none z ng) z⟩)
  · exact .inr z
theorem HouseAt.butN {K : PySem.W.Frag} {H H' : Hp} {g a : Addr} {ds : List (Nat × Nat)} (h : HouseAt K H a ds) (ng : H g = none) (e : But g H H') : HouseAt K H' a ds := by
  obtain ⟨rs, h1, h2, h3⟩ := h
  exact ⟨rs, e.tupN ng h1, h2, fun d r e' x y => e.tupN ng (h3 d r e' x y)⟩
def spRegF (K : PySem.W.Frag) : Sp := fun vs H Q _ => ∃ (a s : Addr) (p n : Nat) (ds : List (Nat × Nat)) (S : S2), vs = [.ref a, .ref s, .int (p : Int)] ∧ HouseAt K H a ds ∧ Tree n ds ∧ n ≤ 60 ∧ StateAt K H s S ∧ StOk n ds S ∧ p < S.1.length ∧
  ∀ (H' : Hp) (q : Addr) (L : List Nat), Same H H' → H q = none → H' q = some (.lst (nv L)) → RegSet ds (barr S p) (S.1.getD p 0) L → L.length ≤ n → Q (.ref q) H'
section
variable {P : Program} {w : World} {K : PySem.W.Frag}
      {mg : Str → Option Value} {base : Heap}
theorem ok_bits (T : Bl mg) (D : Def K mg "_law_bits" s_l_bits) (C_l_way : Cal P w K mg base "_law_way" ["_law_doors", "_law_start", "_law_end"] 2 (spPath K)) : Cal P w K mg base "_law_bits" ["_law_doors", "_law_position"] 3 (spKept K) := by
  refine D.ok sc_l_bits (fun _ _ _ _ _ _ us hl => match us, hl with | [_, _], _ => rfl) (fun vs H Q E h => ?_) (fun f cdv A outer s H vs Q E hr h => ?_)
  · obtain ⟨a, s, ds, n, x, y, S, rfl, _⟩ := h
    rfl
  obtain ⟨a, s, ds, n, x, y, S, rfl, hH, tree, hn, st, ok, hS, q⟩ := h
  obtain ⟨r, b, h1, h2, h3⟩ := id st
  have hdn := tree.len
  have hdl := ok.doors
  have hx : x < n := ok.rooms x (by rw [hS]; simp)
  have hy : y < n := ok.rooms y (by rw [hS]; simp)
  have two : Two S.2 := fun z hz => by
    have := ok.bars z hz
    rw [hS] at this
    exact this
  obtain ⟨f_l_way, fd_l_way, g_l_way, k_l_way, b_l_way, G_l_way⟩ := C_l_way
  refine ⟨_, (pss_cons (ps_set (i := 2) sc_l_bits.nd rfl (.inl rfl) (pe_call G_l_way (hr.mono (by decide)) (by rfl) g_l_way k_l_way b_l_way .nil pass0 (pa_cons (pv 0) (pa_cons (pe_ix ix_tup (pe_ix ix_tup (pv 1) pe_int (fun _ _ => rfl)) pe_int (fun _ _ => rfl)) (pa_cons (pe_ix ix_tup (pe_ix ix_tup (pv 1) pe_int (fun _ _ => rfl)) pe_int (fun _ _ => rfl)) pa_nil)))))
    (pss_cons (ps_set (i := 3) sc_l_bits.nd rfl (.inl rfl) (pe_lst pa_nil))
    (pss_cons (ps_for PassesOwn.never rfl (pi_enumT (by rfl) T.enumerate (pa_cons (pe_ix ix_tup (pv 1) pe_int (fun _ _ => rfl)) pa_nil)) (pg_tup (n := 2) rfl (pgs_cons (pg_name (i := 4) sc_l_bits.nd rfl (.inl rfl)) (pgs_cons (pg_name (i := 5) sc_l_bits.nd rfl (.inl rfl)) pgs_nil)))
    (pss_one (ps_expr (pe_bm PySem.F.plainAttrs_list PySem.F.slot_list_append PySem.F.type_list_append mt_append (pv 3) (pa_cons (pe_ix ix_list (pe_lst (pa_cons (pv 5) (pa_cons (pe_op op_sub pe_int (pv 5)) pa_nil))) (pe_callTy call_int1 (by rfl) T.int (by decide +kernel) (pa_cons (pe_cmpR op_in_seq (pv 4) (pv 2) (by rfl)) pa_nil)) (fun _ _ => rfl)) pa_nil)))))
    (pss_one (ps_ret (pe_callTy call_tuple_of (by rfl) T.tuple (by decide +kernel) (pa_cons (pv 3) pa_nil))))))), ?_⟩
  refine ⟨_, rfl, _, rfl, s, _, _, _, rfl, rfl, h1, atI_nat (j := 0) rfl, r, _, _, _, rfl, rfl, h2, (by rw [hS]; rfl : atI (nv S.1) 0 = some (V.int (x : Int))), _, rfl, s, _, _, _, rfl, rfl, h1, atI_nat (j := 0) rfl, r, _, _, _, rfl, rfl, h2, (by rw [hS]; rfl : atI (nv S.1) 1 = some (V.int (y : Int))), a, ds, n, x, y, rfl, hH, tree, hn, hx, hy, fun H1 pw p s1 npw hpw wk nd => ?_⟩
  refine ⟨Nat.zero_le _, fun pd npd => ?_⟩
  have spd := Same.upd (o := .lst []) npd
  have hpd : (upd H1 pd (.lst [])) pd = some (.lst []) := upd_same
  have npd0 := s1.free npd
  have nwd : pw ≠ pd := ne_of_none hpw npd
  have hpw2 := spd _ _ hpw
  have s2 := s1.trans spd
  generalize upd H1 pd (.lst []) = H2 at s2 hpd hpw2
  refine ⟨_, rfl, s, _, _, _, rfl, rfl, s2.tup h1, atI_nat (j := 1) rfl, b, _, rfl, s2.tup h3, ?_⟩
  refine for_it (walk_enumT (K := K) (a := b) (xs := nv S.2)) (fun i σ H3 => ∃ (y4 y5 : Option V), σ = [some (.ref a), some (.ref s), some (.ref pw), some (.ref pd), y4, y5] ∧ Same H H3 ∧ H3 pw = some (.lst (nv p)) ∧ H3 pd = some (.lst (nv ((turn p S.2).take i))))
    ⟨_, _, rfl, s2, hpw2, hpd⟩ (fun i σ H3 _ ⟨_, _, _, sm, _⟩ => sm.tup h3) ?_ ?_
  · rintro i v σ H3 H4 hi ⟨y4, y5, rfl, sm, hw, hp⟩ ⟨t, x1, x2, rfl, nt, rfl, ex1, ex2⟩
    cases ex1
    obtain ⟨z, hz, rfl⟩ := nv_some ex2
    rw [nv_len] at hi
    have hz2 := two z (List.mem_of_getElem? hz)
    have st := Same.upd (o := .tup [.int (i : Nat), .int (z : Int)]) nt
    refine ⟨t, _, rfl, SqT.of upd_same, rfl, _, _, rfl, _, _, rfl, rfl, ?_⟩
    have sm4 := sm.trans st
    have hw4 := st _ _ hw
    have hp4 := st _ _ hp
    generalize upd H3 t (.tup [.int (i : Nat), .int (z : Int)]) = H5 at sm4 hw4 hp4
    have e1 : (1 : Int) - (z : Int) = ((1 - z : Nat) : Int) := by omega
    refine ⟨_, rfl, .inl ⟨rfl, _, SqL.of hp4⟩, _, rfl, _, rfl, _, _, rfl, rfl, by show 2 ≤ sizeLine; decide, fun pl npl => ?_⟩
    have spl := Same.upd (o := .lst [.int (z : Int), .int ((1 : Int) - (z : Int))]) npl
    refine ⟨_, rfl, _, rfl, pw, _, rfl, .inl (SqL.of (spl _ _ hw4)), rfl, flat_nv p, ?_⟩
    obtain ⟨ix, u, e2, e3, eu⟩ : ∃ (ix u : Nat), (if inV (V.int (i : Int)) (nv p) = true then (1 : Int) else 0) = (ix : Int) ∧ ([z, 1 - z] : List Nat)[ix]? = some u ∧ (if i ∈ p then 1 - z else z) = u := by
      rw [inV_nv]
      by_cases c : i ∈ p
      · exact ⟨1, 1 - z, by rw [decide_eq_true c]; rfl, rfl, if_pos c⟩
      · exact ⟨0, z, by rw [decide_eq_false c]; rfl, rfl, if_neg c⟩
    have at2 : atI [V.int (z : Int), V.int ((1 : Int) - (z : Int))] (if inV (V.int (i : Int)) (nv p) = true then (1 : Int) else 0) = some (V.int (u : Int)) := by
      rw [e2, e1]
      exact nv_at (L := [z, 1 - z]) e3
    refine .inr ⟨_, rfl, pl, _, _, _, rfl, rfl, SqL.of upd_same, at2, ?_⟩
    have tk : (turn p S.2).take (i + 1) = (turn p S.2).take i ++ [u] := by rw [List.take_add_one, turn_get hz, eu]; rfl
    have lt : ((turn p S.2).take i).length ≤ 1000 := by rw [List.length_take]; exact Nat.le_trans (Nat.min_le_left _ _) (by omega)
    have hp5 := spl _ _ hp4
    refine ⟨pd, _, _, rfl, rfl, hp5, by rw [nv_len]; exact small1000 lt, _, _, rfl, (sm4.trans spl).at npd0, by rw [upd_ne nwd]; exact spl _ _ hw4, by rw [upd_same, tk, nv_snoc]⟩
  · rintro σ H3 ⟨y4, y5, rfl, sm, hw, hp⟩
    rw [nv_len, List.take_of_length_le (Nat.le_of_eq (turn_len p S.2))] at hp
    refine ⟨_, rfl, pd, _, rfl, .inl ⟨SqL.of hp, fun t1 nt1 => ?_⟩⟩
    exact q _ t1 p (sm.trans (Same.upd nt1)) (SqT.of upd_same) wk nd
theorem ok_region (T : Bl mg) (D : Def K mg "_law_region" s_l_region) (C_l_neighbours : Cal P w K mg base "_law_neighbours" ["_law_doors", "_law_place"] 1 (spNeigh K)) : Cal P w K mg base "_law_region" ["_law_doors", "_law_position", "_law_person"] 2 (spRegF K) := by
  refine D.ok sc_l_region (fun _ _ _ _ _ _ us hl => match us, hl with | [_, _, _], _ => rfl) (fun vs H Q E h => ?_) (fun f cdv A outer s H vs Q E hr h => ?_)
  · obtain ⟨a, s, p, n, ds, S, rfl, _⟩ := h
    rfl
  obtain ⟨a, s, p, n, ds, S, rfl, hH, tree, hn, st, ok, hp, q⟩ := h
  obtain ⟨r, b, h1, h2, h3⟩ := id st
  have hdn := tree.len
  obtain ⟨f_l_neighbours, fd_l_neighbours, g_l_neighbours, k_l_neighbours, b_l_neighbours, G_l_neighbours⟩ := C_l_neighbours
  refine ⟨_, (pss_cons (ps_set (i := 3) sc_l_region.nd rfl (.inl rfl) (pe_lst (pa_cons (pe_ix ix_tup (pe_ix ix_tup (pv 1) pe_int (fun _ _ => rfl)) (pv 2) (fun _ _ => rfl)) pa_nil)))
    (pss_cons (ps_set (i := 4) sc_l_region.nd rfl (.inl rfl) pe_int)
    (pss_cons (ps_while PassesOwn.never (pt_cmpR op_lt (pv 4) (pe_callB call_len_seq (by rfl) T.len PySem.boot_len (pa_cons (pv 3) pa_nil)) (nomark _)) (pss_cons (ps_for PassesOwn.never rfl (pi_list (pe_call G_l_neighbours (hr.mono (by decide)) (by rfl) g_l_neighbours k_l_neighbours b_l_neighbours .nil pass0 (pa_cons (pv 0) (pa_cons (pe_ix ix_list (pv 3) (pv 4) (fun _ _ => rfl)) pa_nil)))) (pg_tup (n := 2) rfl (pgs_cons (pg_name (i := 5) sc_l_region.nd rfl (.inl rfl)) (pgs_cons (pg_name (i := 6) sc_l_region.nd rfl (.inl rfl)) pgs_nil)))
    (pss_one (ps_if (PW.pt (pw_and (pt_cmpR op_ne (pe_ix ix_tup (pe_ix ix_tup (pv 1) pe_int (fun _ _ => rfl)) (pv 6) (fun _ _ => rfl)) (pv 2) (nomark _)) (pw_and1 (pt_cmpR op_notIn_seq (pv 5) (pv 3) (by rfl))))) (pss_one (ps_expr (pe_bm PySem.F.plainAttrs_list PySem.F.slot_list_append PySem.F.type_list_append mt_append (pv 3) (pa_cons (pv 5) pa_nil)))) pss_nil)))
    (pss_one (ps_set (i := 4) sc_l_region.nd rfl (.inl rfl) (pe_op op_add (pv 4) pe_int)))))
    (pss_one (ps_ret (pv 3)))))), ?_⟩
  obtain ⟨v, hv⟩ : ∃ v, S.1[p]? = some v := get_of rfl hp
  have lv := ok.rooms v (List.mem_of_getElem? hv)
  refine ⟨_, rfl, s, _, _, _, rfl, rfl, h1, atI_nat (j := 0) rfl, _, rfl, r, _, _, _, rfl, rfl, h2, nv_at hv, by show 1 ≤ sizeLine; decide, fun pf npf => ?_⟩
  refine ⟨fun m σ H2 => ∃ (L : List Nat) (i : Nat) (y5 y6 : Option V), m = n - i ∧ σ = [some (.ref a), some (.ref s), some (.int (p : Int)), some (.ref pf), some (.int (i : Int)), y5, y6] ∧ But pf H H2 ∧ H2 pf = some (.lst (nv L)) ∧ Dfs n ds (barr S p) L (L.drop i) ∧ (∀ x ∈ L, ∃ w, Walk ds v w x ∧ ∀ d ∈ w, d ∉ barr S p) ∧ v ∈ L ∧ i ≤ L.length,
    ⟨_, [v], 0, _, _, rfl, rfl, (Same.upd npf).but, upd_same, Dfs.start lv, fun x hx => (by rw [List.mem_singleton] at hx; subst hx; exact ⟨[], .nil _, fun d h => (List.not_mem_nil h).elim⟩), List.mem_singleton.mpr rfl, Nat.zero_le _⟩, fun m σ H2 hW => ?_⟩
  obtain ⟨L, i, y5, y6, rfl, rfl, bt, hL, df, rch, hvL, hi⟩ := hW
  have ln := df.le
  refine ⟨_, rfl, _, rfl, _, _, rfl, .inl (SqL.of hL), _, _, rfl, rfl, _, rfl, ite2 (fun c => ?_) (fun c => ?_)⟩
  · have c := of_decide_eq_true c
    rw [nv_len] at c
    have il : i < L.length := by omega
    obtain ⟨here, hh⟩ : ∃ here, L[i]? = some here := get_of rfl il
    have hin : here ∈ L := List.mem_of_getElem? hh
    have hlt := df.lt here hin
    refine ⟨fun σ' H' => ∃ (L' : List Nat) (y5 y6 : Option V), σ' = [some (.ref a), some (.ref s), some (.int (p : Int)), some (.ref pf), some (.int ((i + 1 : Nat) : Int)), y5, y6] ∧ But pf H H' ∧ H' pf = some (.lst (nv L')) ∧ Dfs n ds (barr S p) L' (L'.drop (i + 1)) ∧ (∀ x ∈ L', ∃ w, Walk ds v w x ∧ ∀ d ∈ w, d ∉ barr S p) ∧ v ∈ L' ∧ i + 1 ≤ L'.length,
      fun σ' H' ⟨L', z6, z7, g1, g2⟩ => ⟨n - (i + 1), by omega, L', i + 1, z6, z7, rfl, g1, g2⟩, ?_⟩
    have dh : L.drop i = here :: L.drop (i + 1) := by
      rw [List.drop_eq_getElem_cons il]
      rw [List.getElem?_eq_getElem il] at hh
      rw [Option.some.inj hh]
    have di0 : DfsIn n ds (barr S p) L (L.drop (i + 1)) here [] := (dh ▸ df).front
    refine ⟨_, rfl, _, rfl, _, rfl, pf, _, _, _, rfl, rfl, SqL.of hL, nv_at hh, a, ds, n, here, rfl, hH.butN npf bt, tree, by omega, fun H3 qx l s3 nqx pl mem nod lle => ?_⟩
    have nqp : qx ≠ pf := (ne_of_none hL nqx).symm
    obtain ⟨ts, g1, g2, g3⟩ := pl
    have bt03 := bt.trans s3.but
    have hL3 := s3 _ _ hL
    refine ⟨qx, rfl, ⟨_, SqL.of g1⟩, ?_⟩
    refine for_it (walk_list (K := K) (a := qx) (xs := ts.map V.ref)) (fun j σ H4 => ∃ (L' : List Nat) (y5 y6 : Option V), σ = [some (.ref a), some (.ref s), some (.int (p : Int)), some (.ref pf), some (.int (i : Int)), y5, y6] ∧ But pf H3 H4 ∧ H4 pf = some (.lst (nv L')) ∧
        DfsIn n ds (barr S p) L' (L'.drop (i + 1)) here ((l.take j).map fun e => (e.2, e.1)) ∧ (∀ x ∈ L', ∃ w, Walk ds v w x ∧ ∀ d ∈ w, d ∉ barr S p) ∧ v ∈ L' ∧ i + 1 ≤ L'.length)
      ⟨L, _, _, rfl, (Same.refl _).but, hL3, di0, rch, hvL, il⟩ (fun j σ H4 _ ⟨_, _, _, _, bt4, _⟩ => SqL.of (bt4 _ _ nqp g1)) ?_ ?_
    · rintro j x σ H4 H5 hj ⟨L', y5, y6, rfl, bt4, hL4, di, rch4, hv4, il4⟩ ⟨rfl, ex1⟩
      have hj' : j < l.length := by
        rw [List.length_map, g2] at hj
        exact hj
      obtain ⟨t, ht⟩ : ∃ t, ts[j]? = some t := get_of g2 hj'
      obtain ⟨e, he⟩ : ∃ e, l[j]? = some e := get_of rfl hj'
      have ex1 : (ts.map V.ref)[j]? = some x := ex1
      rw [List.getElem?_map, ht] at ex1
      cases ex1
      have htup := bt4 _ _ (ne_lt hL3 (g3 j t e ht he)) (g3 j t e ht he)
      have ejoin : Joins ds e.2 here e.1 := (mem e.1 e.2).mp (List.mem_of_getElem? he)
      have etake : (l.take (j + 1)).map (fun e => (e.2, e.1)) = (l.take j).map (fun e => (e.2, e.1)) ++ [(e.2, e.1)] := by
        rw [List.take_add_one, he, List.map_append]
        rfl
      have bt05 := bt03.trans bt4
      have h1' : SqT K H5 s [.ref r, .ref b] := bt05.tupN npf h1
      have h3' : SqT K H5 b (nv S.2) := bt05.tupN npf h3
      obtain ⟨bk, hbk⟩ : ∃ bk, S.2[e.2]? = some bk := get_of ok.doors (joins_ltK ejoin)
      refine ⟨t, _, rfl, SqT.of htup, rfl, _, _, rfl, _, _, rfl, rfl, ?_⟩
      refine ⟨_, rfl, s, _, _, _, rfl, rfl, h1', atI_nat (j := 1) rfl, _, rfl, b, _, _, _, rfl, rfl, h3', nv_at hbk, _, rfl, rfl, _, rfl, ?_⟩
      by_cases cb : bk = p
      · rw [decide_eq_true (show V.int (bk : Int) = V.int (p : Int) by rw [cb])]
        exact iteF (iteF ⟨L', _, _, rfl, bt4, hL4, by rw [etake]; exact di.skip (.inl (mem_barr.mpr (by rw [hbk, cb]))), rch4, hv4, il4⟩)
      · rw [decide_eq_false (show ¬ V.int (bk : Int) = V.int (p : Int) from fun z => cb (by have := V.int.inj z; omega))]
        have nsh : e.2 ∉ barr S p := fun z => by
          have z := mem_barr.mp z
          rw [hbk] at z
          exact cb (Option.some.inj z)
        refine iteT ⟨_, rfl, _, rfl, pf, _, rfl, .inl (SqL.of hL4), rfl, flat_nv _, _, rfl, ?_⟩
        show if (!inV (V.int (e.1 : Int)) (nv L')) = true then _ else _
        rw [inV_nv]
        by_cases hy : e.1 ∈ L'
        · rw [decide_eq_true hy]
          exact iteF ⟨L', _, _, rfl, bt4, hL4, by rw [etake]; exact di.skip (.inr hy), rch4, hv4, il4⟩
        · rw [decide_eq_false hy]
          have ely := (Joins.lt tree ejoin).2.1
          have di2 := di.add (d := e.2) ely hy
          have hle := di2.le
          rw [List.length_append, List.length_singleton] at hle
          refine iteT ⟨_, rfl, .inl ⟨rfl, _, SqL.of hL4⟩, _, rfl, pf, _, _, rfl, rfl, hL4, by rw [nv_len]; exact small1000 (by omega), ?_⟩
          refine ⟨L' ++ [e.1], _, _, rfl, bt4.upd _, by rw [upd_same, nv_snoc], ?_, fun x hx => ?_, List.mem_append.mpr (.inl hv4), by rw [List.length_append]; omega⟩
          · rw [etake, List.drop_append_of_le_length il4]
            exact di2
          · rcases List.mem_append.mp hx with hx | hx
            · exact rch4 x hx
            · rw [List.mem_singleton] at hx
              subst hx
              obtain ⟨w0, w1, w2⟩ := rch4 here di.he
              refine ⟨w0 ++ [e.2], w1.snoc ejoin, fun d hd => ?_⟩
              rcases List.mem_append.mp hd with hd | hd
              · exact w2 d hd
              · rw [List.mem_singleton] at hd
                rw [hd]
                exact nsh
    · rintro σ H4 ⟨L', y5, y6, rfl, bt4, hL4, di, rch4, hv4, il4⟩
      refine ⟨_, rfl, _, _, rfl, rfl, L', _, _, rfl, bt03.trans bt4, hL4, di.done fun d y j => ?_, rch4, hv4, il4⟩
      rw [List.length_map, g2, List.take_length]
      exact List.mem_map.mpr ⟨(y, d), (mem y d).mpr j, rfl⟩
  · have c : ¬ (i : Int) < ((nv L).length : Nat) := fun z => c (decide_eq_true z)
    rw [nv_len] at c
    have il : i = L.length := by omega
    subst il
    rw [List.drop_length] at df
    have rs : RegSet ds (barr S p) v L := ⟨df.nd, fun x => ⟨fun hx => rch x hx, fun ⟨w, h1, h2⟩ => df.walk h1 h2 hvL⟩⟩
    refine ⟨_, rfl, q H2 pf L (But.same (Same.refl _) npf bt) npf hL (by rw [getD_ofK hv]; exact rs) ln⟩
end
end K5

namespace K5
open PySem PySem.Spec PyProof.Rows L2
def dT (l : List Nat) : PyData := .tuple (dIs l)
theorem dT_shaped (l : List Nat) : SeqAt.shaped (dT l) = true := by
  have h := dIs_depth l
  refine shaped_mk ?_ ?_
  · simp only [dT, PyData.canLay0]
    exact dIs_lay l
  · simp only [dT, PyData.depth]
    omega
theorem dp_T {K : PySem.W.Frag} {H : Hp} {q : Addr} {l : List Nat} (h : SqT K H q (nv l)) : Dp K H (.ref q) (dT l) := .tup h (dp_is l)
theorem dT_ne (l : List Nat) : (!PyData.eqv (dT l) (dT l)) = false := by rw [d_refl (dT_shaped l)]; rfl
theorem barr_iff {S : S2} {d q : Nat} (h : d < S.2.length) : d ∉ barr S q ↔ S.2.getD d 0 ≠ q := by
  rw [mem_barr, List.getD_eq_getElem?_getD, List.getElem?_eq_getElem h]
  simp
theorem turn_getD {p L : List Nat} {d : Nat} (h : d < L.length) : (turn p L).getD d 0 = if d ∈ p then 1 - L.getD d 0 else L.getD d 0 := by
  have e : L[d]? = some (L.getD d 0) := by rw [List.getD_eq_getElem?_getD, List.getElem?_eq_getElem h]; rfl
  rw [List.getD_eq_getElem?_getD, turn_get e]
  rfl
/-- the law's shared rooms are there just where the bits are zeros, then ones -/
theorem shared_iff {n x y : Nat} {ds : List (Nat × Nat)} (T : Tree n ds) {p β : List Nat} (w : Walk ds x p y) (np : p.Nodup) (two : Two β) (hl : β.length = ds.length) {L0 L1 : List Nat}
    (r0 : RegSet ds (barr ([x, y], turn p β) 0) x L0) (r1 : RegSet ds (barr ([x, y], turn p β) 1) y L1) : (L0.filter fun r => decide (r ∈ L1)) = [] ↔ ¬ (along p β).Pairwise (· ≤ ·) := by
  have hS : (turn p β).length = ds.length := by rw [turn_len, hl]
  have hb : ∀ d ∈ p, β.getD d 0 < 2 := fun d hd => by
    have hd2 := path_lt T w d hd
    have : β.getD d 0 ∈ β := by rw [List.getD_eq_getElem?_getD, List.getElem?_eq_getElem (by omega)]; exact List.getElem_mem (by omega)
    exact two _ this
  have key := share_iff T w np (fun d => β.getD d 0) (fun d => (turn p β).getD d 0) hb fun d hd => by
    have hd2 := path_lt T w d hd
    show (turn p β).getD d 0 = 1 - β.getD d 0
    rw [turn_getD (by omega), if_pos hd]
  unfold along
  rw [← key, List.filter_eq_nil_iff]
  constructor
  · rintro h ⟨r, ⟨u, wu, hu⟩, v, wv, hv⟩
    have m0 : r ∈ L0 := (r0.mem r).mpr ⟨u, wu, fun d hd => (barr_iff (S := ([x, y], turn p β)) (by show d < (turn p β).length; rw [hS]; exact path_lt T wu d hd)).mpr (hu d hd)⟩
    have m1 : r ∈ L1 := (r1.mem r).mpr ⟨v, wv, fun d hd => (barr_iff (S := ([x, y], turn p β)) (by show d < (turn p β).length; rw [hS]; exact path_lt T wv d hd)).mpr (hv d hd)⟩
    exact h r m0 (decide_eq_true m1)
  · intro h r m0 m1
    have m1 := of_decide_eq_true m1
    obtain ⟨u, wu, hu⟩ := (r0.mem r).mp m0
    obtain ⟨v, wv, hv⟩ := (r1.mem r).mp m1
    refine h ⟨r, ⟨u, wu, fun d hd => ?_⟩, v, wv, fun d hd => ?_⟩
    · exact (barr_iff (S := ([x, y], turn p β)) (by show d < (turn p β).length; rw [hS]; exact path_lt T wu d hd)).mp (hu d hd)
    · exact (barr_iff (S := ([x, y], turn p β)) (by show d < (turn p β).length; rw [hS]; exact path_lt T wv d hd)).mp (hv d hd)
def spRR (K : PySem.W.Frag) : Sp := fun vs H Q _ => ∃ (a bp : Addr) (ds : List (Nat × Nat)) (n x y : Nat) (β : List Nat), vs = [.ref a, .ref bp, .int (x : Int), .int (y : Int)] ∧ HouseAt K H a ds ∧ Tree n ds ∧ n ≤ 60 ∧ SqT K H bp (nv β) ∧ β.length = ds.length ∧ Two β ∧ x < n ∧ y < n ∧ ∀ H', Same H H' → Q (.bl true) H'
section
variable {P : Program} {w : World} {K : PySem.W.Frag}
      {mg : Str → Option Value} {base : Heap}
theorem ok_rooms_right (T : Bl mg) (D : Def K mg "_law_rooms_right" s_l_rooms_right) (C_state_of_bits : Cal P w K mg base "state_of_bits" ["house", "bits", "a", "b"] 7 (spSOB K)) (C_l_bits : Cal P w K mg base "_law_bits" ["_law_doors", "_law_position"] 3 (spKept K)) (C_kept_bits : Cal P w K mg base "kept_bits" ["house", "state"] 8 (spKept K))
    (C_l_way : Cal P w K mg base "_law_way" ["_law_doors", "_law_start", "_law_end"] 2 (spPath K)) (C_l_region : Cal P w K mg base "_law_region" ["_law_doors", "_law_position", "_law_person"] 2 (spRegF K))
    (C_can_meet : Cal P w K mg base "can_meet" ["house", "bits", "a", "b"] 7 (spCan K (· ≤ ·))) (C_can_follow : Cal P w K mg base "can_follow" ["house", "bits", "a", "b"] 7 (spCan K (· ≥ ·))) :
    Cal P w K mg base "_law_rooms_right" ["_law_doors", "_law_bits_here", "_law_one", "_law_other"] 9 (spRR K) := by
  refine D.ok sc_l_rooms_right (fun _ _ _ _ _ _ us hl => match us, hl with | [_, _, _, _], _ => rfl) (fun vs H Q E h => ?_) (fun f cdv A outer s0 H vs Q E hr h => ?_)
  · obtain ⟨a, bp, ds, n, x, y, β, rfl, _⟩ := h
    rfl
  obtain ⟨a, bp, ds, n, x, y, β, rfl, hH, tree, hn, hb, hl, two, hx, hy, qn⟩ := h
  have hdn := tree.len
  obtain ⟨f_state_of_bits, fd_state_of_bits, g_state_of_bits, k_state_of_bits, b_state_of_bits, G_state_of_bits⟩ := C_state_of_bits
  obtain ⟨f_l_bits, fd_l_bits, g_l_bits, k_l_bits, b_l_bits, G_l_bits⟩ := C_l_bits
  obtain ⟨f_kept_bits, fd_kept_bits, g_kept_bits, k_kept_bits, b_kept_bits, G_kept_bits⟩ := C_kept_bits
  obtain ⟨f_l_way, fd_l_way, g_l_way, k_l_way, b_l_way, G_l_way⟩ := C_l_way
  obtain ⟨f_l_region, fd_l_region, g_l_region, k_l_region, b_l_region, G_l_region⟩ := C_l_region
  obtain ⟨f_can_meet, fd_can_meet, g_can_meet, k_can_meet, b_can_meet, G_can_meet⟩ := C_can_meet
  obtain ⟨f_can_follow, fd_can_follow, g_can_follow, k_can_follow, b_can_follow, G_can_follow⟩ := C_can_follow
  refine ⟨_, (pss_cons (ps_set (i := 4) sc_l_rooms_right.nd rfl (.inr rfl) (pe_call G_state_of_bits (hr.mono (by decide)) (by rfl) g_state_of_bits k_state_of_bits b_state_of_bits .nil pass0 (pa_cons (pv 0) (pa_cons (pv 1) (pa_cons (pv 2) (pa_cons (pv 3) pa_nil))))))
    (pss_cons (ps_if (PW.pt (pw_or (pt_cmpR (op_neD hr.units) (pe_ix ix_tup (pv 4) pe_int (fun _ _ => rfl)) (pe_tup (pa_cons (pv 2) (pa_cons (pv 3) pa_nil))) (nomark _)) (pw_or1 (pt_cmpR (op_neD hr.units) (pe_call G_l_bits (hr.mono (by decide)) (by rfl) g_l_bits k_l_bits b_l_bits .nil pass0 (pa_cons (pv 0) (pa_cons (pv 4) pa_nil))) (pv 1) (nomark _))))) (pss_one (ps_ret pe_bl)) pss_nil)
    (pss_cons (ps_if (pt_cmpR (op_neD hr.units) (pe_call G_kept_bits (hr.mono (by decide)) (by rfl) g_kept_bits k_kept_bits b_kept_bits .nil pass0 (pa_cons (pv 0) (pa_cons (pv 4) pa_nil))) (pv 1) (nomark _)) (pss_one (ps_ret pe_bl)) pss_nil)
    (pss_cons (ps_setLc (i := 5) (own := [("_law_index", 6)]) (g := gName 6)  (te := (tOp (rIxT K) (tVar 1) (tVar 6))) rfl sc_l_rooms_right.nd rfl rfl (sw_true rfl rfl rfl (by decide +kernel)) (pi_list (pe_call G_l_way (hr.mono (by decide)) (by rfl) g_l_way k_l_way b_l_way .nil pass0 (pa_cons (pv 0) (pa_cons (pv 2) (pa_cons (pv 3) pa_nil))))) (blkOk_by (N := N_l_rooms_right) (sc := defScope s_l_rooms_right) (own := [("_law_index", 6)]) (by decide +kernel)) (fun _ _ _ _ _ => (pg_name (i := 6) sc_l_rooms_right.nd rfl (.inl rfl) (.inr rfl))) (fun _ _ _ _ _ => pts_nil) (fun _ _ _ _ _ => (pe_ix ix_tup (pv 1) (pv 6) (fun _ _ => rfl))))
    (pss_cons (ps_asg (pe_lc (own := [("_law_person", 9)]) (g := gName 9)  (te := (tCall (spRegF K) [] E0 (tCons (tVar 0) (tCons (tVar 4) (tCons (tVar 9) tNil))))) rfl sc_l_rooms_right.nd (pi_range1 rfl T.range (pa_cons pe_int pa_nil)) (blkOk_by (N := N_l_rooms_right) (sc := defScope s_l_rooms_right) (own := [("_law_person", 9)]) (by decide +kernel)) (fun _ _ _ _ _ => (pg_name (i := 9) sc_l_rooms_right.nd rfl (.inl rfl) (.inr rfl))) (fun _ _ _ _ _ => pts_nil) (fun _ _ _ _ _ => (pe_call G_l_region (hr.mono (by decide)) (by rfl) g_l_region k_l_region b_l_region .nil pass0 (pa_cons (pv 0) (pa_cons (pv 4) (pa_cons (pv 9) pa_nil)))))) (pg_unl (n := 2) rfl (pgs_cons (pg_name (i := 7) sc_l_rooms_right.nd rfl (.inl rfl)) (pgs_cons (pg_name (i := 8) sc_l_rooms_right.nd rfl (.inr rfl)) pgs_nil))))
    (pss_cons (ps_set (i := 10) sc_l_rooms_right.nd rfl (.inl rfl) (pe_cmpR (op_neD hr.units) (pe_lc (own := [("_law_room", 11)]) (g := gName 11)  (tt := (tTest (tOp (rIn K false) (tVar 11) (tVar 8)))) rfl sc_l_rooms_right.nd (pi_list (pv 7)) (blkOk_by (N := N_l_rooms_right) (sc := defScope s_l_rooms_right) (own := [("_law_room", 11)]) (by decide +kernel)) (fun _ _ _ _ _ => (pg_name (i := 11) sc_l_rooms_right.nd rfl (.inl rfl) (.inr rfl))) (fun _ _ _ _ _ => (pts_one (pt_cmpR op_in_seq (pv 11) (pv 8) (by rfl)))) (fun _ _ _ _ _ => (pv 11))) (pe_lst pa_nil) (nomark _)))
    (pss_cons (ps_if (PW.pt (pw_or (pt_cmpR op_ne (pe_call G_can_meet (hr.mono (by decide)) (by rfl) g_can_meet k_can_meet b_can_meet .nil pass0 (pa_cons (pv 0) (pa_cons (pv 1) (pa_cons (pv 2) (pa_cons (pv 3) pa_nil))))) (pv 10) (nomark _)) (pw_or1 (pt_cmpR op_ne (pv 10) (pe_cmpR (op_eqD hr.units) (pv 5) (pe_callB cr_sorted (by rfl) T.sorted (by decide +kernel) (pa_cons (pv 5) pa_nil)) (nomark _)) (nomark _))))) (pss_one (ps_ret pe_bl)) pss_nil)
    (pss_one (ps_ret (pe_cmpR op_eq (pe_call G_can_follow (hr.mono (by decide)) (by rfl) g_can_follow k_can_follow b_can_follow .nil pass0 (pa_cons (pv 0) (pa_cons (pv 1) (pa_cons (pv 2) (pa_cons (pv 3) pa_nil))))) (pe_cmpR (op_eqD hr.units) (pe_revL (pv 5)) (pe_callB cr_sorted (by rfl) T.sorted (by decide +kernel) (pa_cons (pv 5) pa_nil)) (nomark _)) (nomark _))))))))))), ?_⟩
  refine ⟨_, rfl, _, rfl, _, rfl, _, rfl, a, bp, ds, n, x, y, β, rfl, hH, tree, by omega, hb, hl, two, hx, hy, fun H1 s p s1 st wk nd => ?_⟩
  have ok : StOk n ds ([x, y], turn p β) := ⟨by show 1 ≤ 2; decide, by show 2 ≤ 4; decide, fun z hz => by
    have hz : z ∈ [x, y] := hz
    simp only [List.mem_cons, List.not_mem_nil, or_false] at hz
    rcases hz with rfl | rfl
    · exact hx
    · exact hy, by show (turn p β).length = _; rw [turn_len, hl], turn_two two⟩
  have uniq : ∀ p', Walk ds x p' y → p'.Nodup → p' = p := fun p' w' n' => way_unique tree w' wk n' nd
  obtain ⟨r, b, h1, h2, h3⟩ := id st
  refine ⟨_, rfl, s, _, _, _, rfl, rfl, h1, atI_nat (j := 0) rfl, _, rfl, _, rfl, by show 2 ≤ sizeLine; decide, fun t1 nt1 => ?_⟩
  have s2 := Same.upd (o := .tup [.int (x : Int), .int (y : Int)]) nt1
  refine ⟨dT [x, y], dT [x, y], dp_T (s2.tup h2), dp_T (SqT.of upd_same), dT_shaped _, dT_shaped _, _, rfl, ?_⟩
  rw [dT_ne]
  refine iteF ?_
  have s02 := s1.trans s2
  have st2 := st.same s2
  generalize upd H1 t1 (.tup [.int (x : Int), .int (y : Int)]) = H2 at s2 s02 st2
  refine ⟨_, rfl, _, rfl, a, s, ds, n, x, y, ([x, y], turn p β), rfl, hH.same s02, tree, by omega, st2, ok, rfl, fun H3 q3 p3 s3 hq3 wk3 nd3 => ?_⟩
  obtain rfl := (uniq p3 wk3 nd3).symm
  have hq3 : SqT K H3 q3 (nv (turn p (turn p β))) := hq3
  rw [turn_turn two] at hq3
  have s03 := s02.trans s3
  refine ⟨_, rfl, dT β, dT β, dp_T hq3, dp_T (s03.tup hb), dT_shaped _, dT_shaped _, _, rfl, ?_⟩
  rw [dT_ne]
  refine iteF ?_
  refine ⟨_, rfl, _, rfl, a, s, ds, n, x, y, ([x, y], turn p β), rfl, hH.same s03, tree, by omega, st2.same s3, ok, rfl, fun H4 q4 p4 s4 hq4 wk4 nd4 => ?_⟩
  obtain rfl := (uniq p4 wk4 nd4).symm
  have hq4 : SqT K H4 q4 (nv (turn p (turn p β))) := hq4
  rw [turn_turn two] at hq4
  have s04 := s03.trans s4
  refine ⟨_, rfl, dT β, dT β, dp_T hq4, dp_T (s04.tup hb), dT_shaped _, dT_shaped _, _, rfl, ?_⟩
  rw [dT_ne]
  refine iteF ?_
  refine ⟨_, rfl, _, rfl, _, rfl, a, ds, n, x, y, rfl, hH.same s04, tree, by omega, hx, hy, fun H5 pw p5 s5 npw hpw wk5 nd5 => ?_⟩
  obtain rfl := (uniq p5 wk5 nd5).symm
  have s05 := s04.trans s5
  have st5 := (st2.same s3).same s4 |>.same s5
  have hpl := path_len tree wk nd
  refine ⟨pw, rfl, ⟨_, SqL.of hpw⟩, fun pd npd => ?_⟩
  refine lc_it (walk_list (K := K) (a := pw) (xs := nv p)) (fun i H6 => Same H5 H6 ∧ H6 pd = some (.lst (nv (along (p.take i) β)))) ⟨Same.upd npd, upd_same⟩ (fun i H6 _ h => SqL.of (h.1 _ _ hpw)) ?_ ?_
  · rintro i v H6 H7 hi ⟨sm, hp⟩ ⟨rfl, ex⟩
    rw [nv_len] at hi
    obtain ⟨d, hd, rfl⟩ := nv_some ex
    have hdl := path_lt tree wk d (List.mem_of_getElem? hd)
    obtain ⟨z, hz⟩ : ∃ z, β[d]? = some z := get_of hl hdl
    refine ⟨rfl, lcYes ?_⟩
    refine ⟨_, rfl, _, rfl, bp, _, _, _, rfl, rfl, (s05.trans sm).tup hb, nv_at hz, ?_⟩
    refine ⟨_, hp, ?_, sm.at npd, ?_⟩
    · rw [nv_len, along, List.length_map, List.length_take]
      exact small1000 (Nat.le_trans (Nat.min_le_left _ _) (by omega))
    · have e : β.getD d 0 = z := by rw [List.getD_eq_getElem?_getD, hz]; rfl
      have tk : p.take (i + 1) = p.take i ++ [d] := by rw [List.take_add_one, hd]; rfl
      have ta : along (p.take i ++ [d]) β = along (p.take i) β ++ [z] := by
        unfold along
        rw [List.map_append, List.map_singleton, e]
      rw [upd_same, tk, ta, nv_snoc]
  rintro H6 ⟨sm6, hp6⟩
  rw [nv_len, List.take_length] at hp6
  have s06 := s05.trans sm6
  have st6 := st5.same sm6
  have wl : (along p β).length ≤ n := by rw [along, List.length_map]; omega
  refine ⟨2, rfl, by decide, by decide, fun pr npr => ?_⟩
  refine lc_range (lo := 0) (n := 2) (fun i H7 => ∃ (rs : List Addr) (Ls : List (List Nat)), Same H6 H7 ∧ H7 pr = some (.lst (rs.map V.ref)) ∧ rs.length = i ∧ Ls.length = i ∧ ∀ (j : Nat) (r : Addr) (L : List Nat), rs[j]? = some r → Ls[j]? = some L → r ≠ pr ∧ H7 r = some (.lst (nv L)) ∧ RegSet ds (barr ([x, y], turn p β) j) (([x, y] : List Nat).getD j 0) L ∧ L.length ≤ n)
    ⟨[], [], Same.upd npr, upd_same, rfl, rfl, fun j r L h => by simp at h⟩ ?_ ?_
  · rintro i H7 hi ⟨rs, Ls, sm7, hpr, hrs, hLs, hall⟩
    rw [Int.zero_add]
    refine ⟨rfl, lcYes ?_⟩
    refine ⟨_, rfl, _, rfl, _, rfl, a, s, i, n, ds, ([x, y], turn p β), rfl, hH.same (s06.trans sm7), tree, hn, st6.same sm7, ok, hi, fun H8 q8 L8 s8 nq8 hq8 rs8 le8 => ?_⟩
    have hpr8 := s8 _ _ hpr
    have nqr : q8 ≠ pr := (ne_of_none hpr nq8).symm
    refine ⟨_, hpr8, by rw [List.length_map, hrs]; exact small1000 (by omega), rs ++ [q8], Ls ++ [L8], (sm7.trans s8).at npr, by rw [upd_same, List.map_append]; rfl, by simp [hrs], by simp [hLs], fun j r L e1 e2 => ?_⟩
    by_cases c : j < i
    · rw [List.getElem?_append_left (by rw [hrs]; exact c)] at e1
      rw [List.getElem?_append_left (by rw [hLs]; exact c)] at e2
      obtain ⟨g1, g2, g3, g4⟩ := hall j r L e1 e2
      exact ⟨g1, by rw [upd_ne g1]; exact s8 _ _ g2, g3, g4⟩
    · have hlt := get_lt e1
      rw [List.length_append, List.length_singleton, hrs] at hlt
      have ej : j = i := by omega
      subst ej
      rw [List.getElem?_append_right (by rw [hrs]; exact Nat.le_refl _), hrs, Nat.sub_self] at e1
      rw [List.getElem?_append_right (by rw [hLs]; exact Nat.le_refl _), hLs, Nat.sub_self] at e2
      cases e1
      cases e2
      exact ⟨nqr, by rw [upd_ne nqr]; exact hq8, rs8, le8⟩
  rintro H7 ⟨rs, Ls, sm7, hpr, hrs, hLs, hall⟩
  obtain ⟨q0, q1, rfl⟩ : ∃ q0 q1, rs = [q0, q1] := by
    match rs, hrs with
    | [q0, q1], _ => exact ⟨q0, q1, rfl⟩
  obtain ⟨L0, L1, rfl⟩ : ∃ L0 L1, Ls = [L0, L1] := by
    match Ls, hLs with
    | [L0, L1], _ => exact ⟨L0, L1, rfl⟩
  obtain ⟨_, hq0, rs0, le0⟩ := hall 0 q0 L0 rfl rfl
  obtain ⟨_, hq1, rs1, le1⟩ := hall 1 q1 L1 rfl rfl
  have rs0 : RegSet ds (barr ([x, y], turn p β) 0) x L0 := rs0
  have rs1 : RegSet ds (barr ([x, y], turn p β) 1) y L1 := rs1
  have s07 := s06.trans sm7
  have hw7 := sm7 _ _ hp6
  refine ⟨pr, _, rfl, SqL.of hpr, rfl, _, _, rfl, _, _, rfl, rfl, ?_⟩
  refine ⟨_, rfl, q0, rfl, ⟨_, SqL.of hq0⟩, fun pm npm => ?_⟩
  refine lc_it (walk_list (K := K) (a := q0) (xs := nv L0)) (fun i H8 => Same H7 H8 ∧ H8 pm = some (.lst (nv ((L0.take i).filter fun r => decide (r ∈ L1))))) ⟨Same.upd npm, upd_same⟩ (fun i H8 _ h => SqL.of (h.1 _ _ hq0)) ?_ ?_
  · rintro i v H8 H9 hi ⟨sm, hp⟩ ⟨rfl, ex⟩
    rw [nv_len] at hi
    obtain ⟨z, hz, rfl⟩ := nv_some ex
    have tk : L0.take (i + 1) = L0.take i ++ [z] := by rw [List.take_add_one, hz]; rfl
    refine ⟨rfl, _, rfl, _, rfl, q1, _, rfl, .inl (SqL.of (sm _ _ hq1)), rfl, flat_nv L1, _, rfl, ?_⟩
    show if inV (V.int (z : Int)) (nv L1) = true then _ else _
    rw [inV_nv]
    by_cases c : z ∈ L1
    · rw [decide_eq_true c]
      refine iteT ⟨_, rfl, _, hp, ?_, sm.at npm, ?_⟩
      · rw [nv_len]
        have h1 := List.length_filter_le (fun r => decide (r ∈ L1)) (L0.take i)
        rw [List.length_take] at h1
        exact small1000 (by omega)
      · have e1 : [z].filter (fun r => decide (r ∈ L1)) = [z] := by simp [c]
        rw [upd_same, tk, List.filter_append, e1, nv_snoc]
    · rw [decide_eq_false c]
      refine iteF ⟨sm, ?_⟩
      have e1 : [z].filter (fun r => decide (r ∈ L1)) = [] := by simp [c]
      rw [tk, List.filter_append, e1, List.append_nil]
      exact hp
  rintro H8 ⟨sm8, hp8⟩
  rw [nv_len, List.take_length] at hp8
  have sh := shared_iff tree wk nd two hl rs0 rs1
  generalize hM : (L0.filter fun r => decide (r ∈ L1)) = M at hp8 sh
  refine ⟨Nat.zero_le _, fun pe npe => ?_⟩
  have s9 := Same.upd (o := .lst []) npe
  refine ⟨dL M, dL [], dp_L (SqL.of (s9 _ _ hp8)), dp_L (l := []) (SqL.of upd_same), dL_shaped _, dL_shaped [], ?_⟩
  rw [dL_nil]
  have s09 := (s07.trans sm8).trans s9
  have hw9 := s9 _ _ (sm8 _ _ hw7)
  have ev : (!decide (M = [])) = decide ((along p β).Pairwise (· ≤ ·)) := by
    by_cases c : (along p β).Pairwise (· ≤ ·)
    · rw [decide_eq_true c, decide_eq_false fun z => (sh.mp z) c]
      rfl
    · rw [decide_eq_false c, decide_eq_true (sh.mpr c)]
      rfl
  rw [ev]
  generalize upd H8 pe (.lst []) = H9 at s9 s09 hw9
  refine ⟨_, rfl, _, rfl, _, rfl, _, rfl, a, bp, ds, n, x, y, β, rfl, hH.same s09, tree, hn, s09.tup hb, hl, two, hx, hy, fun HA pA sA wkA ndA => ?_⟩
  obtain rfl := (uniq pA wkA ndA).symm
  refine ⟨_, rfl, rfl, _, rfl, ?_⟩
  rw [ne_self]
  refine iteF ?_
  have s0A := s09.trans sA
  have hwA := sA _ _ hw9
  refine ⟨_, rfl, _, rfl, _, rfl, pd, (along p β).map (fun x : Nat => (x : Int)), rfl, by rw [← nv_int]; exact SqL.of hwA, by rw [List.length_map]; omega, fun ns' p' pm pw' np' => ?_⟩
  obtain ⟨M', rfl, pM⟩ := sort_nat pm
  have sM : M'.Pairwise (· ≤ ·) := by
    rw [List.pairwise_map] at pw'
    exact pw'.imp fun h => by omega
  have sB := Same.upd (o := .lst ((M'.map fun x : Nat => (x : Int)).map V.int)) np'
  have hpB : (upd HA p' (.lst ((M'.map fun x : Nat => (x : Int)).map V.int))) p' = some (.lst (nv M')) := by rw [upd_same, nv_int]
  refine ⟨dL (along p β), dL M', dp_L (SqL.of (sB _ _ hwA)), dp_L (SqL.of hpB), dL_shaped _, dL_shaped _, ?_⟩
  have e : decide (along p β = M') = decide ((along p β).Pairwise (· ≤ ·)) := by
    by_cases c : (along p β).Pairwise (· ≤ ·)
    · rw [decide_eq_true c, decide_eq_true (le_unique _ _ pM.symm c sM)]
    · rw [decide_eq_false c, decide_eq_false (fun z : along p β = M' => c (by rw [z]; exact sM))]
  rw [dL_eqv, e]
  refine ⟨rfl, _, rfl, ?_⟩
  rw [ne_self]
  refine iteF ?_
  have s0B := s0A.trans sB
  have hwB := sB _ _ hwA
  generalize upd HA p' (.lst ((M'.map fun x : Nat => (x : Int)).map V.int)) = HB at sB s0B hwB hpB
  refine ⟨_, rfl, _, rfl, _, rfl, _, rfl, a, bp, ds, n, x, y, β, rfl, hH.same s0B, tree, hn, s0B.tup hb, hl, two, hx, hy, fun HC pC sC wkC ndC => ?_⟩
  obtain rfl := (uniq pC wkC ndC).symm
  have s0C := s0B.trans sC
  have hwC := sC _ _ hwB
  refine ⟨_, rfl, pd, nv (along p β), rfl, SqL.of hwC, fun pv npv => ?_⟩
  have sD := Same.upd (o := .lst (nv (along p β)).reverse) npv
  have hwD := sD _ _ hwC
  have hpv : (upd HC pv (.lst (nv (along p β)).reverse)) pv = some (.lst (nv (along p β).reverse)) := by
    rw [upd_same]
    unfold nv
    rw [List.map_reverse]
  have s0D := s0C.trans sD
  generalize upd HC pv (.lst (nv (along p β)).reverse) = HD at sD hwD hpv s0D
  refine ⟨_, rfl, pd, (along p β).map (fun x : Nat => (x : Int)), rfl, by rw [← nv_int]; exact SqL.of hwD, by rw [List.length_map]; omega, fun ns' p' pm pw' np' => ?_⟩
  obtain ⟨M', rfl, pM⟩ := sort_nat pm
  have sM : M'.Pairwise (· ≤ ·) := by
    rw [List.pairwise_map] at pw'
    exact pw'.imp fun h => by omega
  have sE := Same.upd (o := .lst ((M'.map fun x : Nat => (x : Int)).map V.int)) np'
  have hpE : (upd HD p' (.lst ((M'.map fun x : Nat => (x : Int)).map V.int))) p' = some (.lst (nv M')) := by rw [upd_same, nv_int]
  refine ⟨dL (along p β).reverse, dL M', dp_L (SqL.of (sE _ _ hpv)), dp_L (SqL.of hpE), dL_shaped _, dL_shaped _, ?_⟩
  have e : decide ((along p β).reverse = M') = decide ((along p β).Pairwise (· ≥ ·)) := by
    by_cases c : (along p β).Pairwise (· ≥ ·)
    · rw [decide_eq_true c, decide_eq_true (le_unique _ _ ((List.reverse_perm _).trans pM.symm) (List.pairwise_reverse.mpr c) sM)]
    · rw [decide_eq_false c, decide_eq_false (fun z : (along p β).reverse = M' => c (List.pairwise_reverse.mp (by rw [z]; exact sM)))]
  rw [dL_eqv, e]
  refine ⟨rfl, ?_⟩
  rw [decide_eq_true rfl]
  exact qn _ (s0D.trans sE)
end
end K5

namespace K5
open PySem PySem.Spec PyProof.Rows L2
theorem kept_step {n x y : Nat} {ds : List (Nat × Nat)} {S : S2} {m : Mv} (T : Tree n ds) (ok : StOk n ds S) (hS : S.1 = [x, y]) (v : VM ds S.1.length m) (hw : why ds S m = none) :
    ∃ x' y', (nxt ds S m).1 = [x', y'] ∧ ∀ p p', Walk ds x p y → p.Nodup → Walk ds x' p' y' → p'.Nodup → turn p' (nxt ds S m).2 = turn p S.2 := by
  obtain ⟨v1, d, j⟩ := v
  have hd := dix_is T j
  have hdl := joins_lt j
  unfold why at hw
  rw [hd] at hw
  have h1 : S.1.getD m.1 0 = m.2.1 := Classical.byContradiction fun z => by rw [if_pos z] at hw; cases hw
  rw [if_neg (by rw [h1]; exact fun z => z rfl)] at hw
  have h2 : S.2.getD d 0 ≠ m.1 := fun z => by rw [if_pos z] at hw; cases hw
  obtain ⟨b, hb⟩ : ∃ b, S.2[d]? = some b := get_of ok.doors hdl
  have hb0 : S.2.getD d 0 = b := getD_ofK hb
  rw [hb0] at h2
  have hb2 := ok.bars b (List.mem_of_getElem? hb)
  rw [hS] at v1 hb2 h1
  have v1 : m.1 < 2 := v1
  have hb2 : b < 2 := hb2
  have e2 : (nxt ds S m).2 = S.2.set d (1 - b) := by
    show S.2.set (dix ds m.2.1 m.2.2) m.1 = _
    rw [hd]
    congr 1
    omega
  have hc : m.1 = 0 ∨ m.1 = 1 := by omega
  rcases hc with c | c
  · refine ⟨m.2.2, y, ?_, fun p p' w np w' np' => ?_⟩
    · show S.1.set m.1 m.2.2 = _
      rw [hS, c]
      rfl
    · rw [c] at h1
      have h1 : x = m.2.1 := h1
      rw [e2]
      exact turn_step T (by rw [h1]; exact j) w np w' np' hb hb2
  · refine ⟨x, m.2.2, ?_, fun p p' w np w' np' => ?_⟩
    · show S.1.set m.1 m.2.2 = _
      rw [hS, c]
      rfl
    · rw [c] at h1
      have h1 : y = m.2.1 := h1
      rw [e2]
      have := turn_step T (p := p.reverse) (p' := p'.reverse) (by rw [h1]; exact j) w.rev ((List.reverse_perm p).nodup_iff.mpr np) w'.rev ((List.reverse_perm p').nodup_iff.mpr np') hb hb2
      rw [turn_mem (p := p') (q := p'.reverse) fun d => List.mem_reverse.symm, turn_mem (p := p) (q := p.reverse) fun d => List.mem_reverse.symm]
      exact this
theorem two_rooms {S : S2} (h : S.1.length = 2) : ∃ x y, S.1 = [x, y] := by
  match S.1, h with
  | [x, y], _ => exact ⟨x, y, rfl⟩
def spLaw (K : PySem.W.Frag) : Sp := fun vs H Q _ => ∃ (a : Addr) (ns : List Int), vs = [.ref a] ∧ SqL K H a (ns.map V.int) ∧ ns.length ≤ 63 ∧ ∀ H', Q (.bl true) H'
section
variable {P : Program} {w : World} {K : PySem.W.Frag}
      {mg : Str → Option Value} {base : Heap}
theorem ok_law {f0 : Addr} {fd0 : FuncData} (T : Bl mg) (F : Fun K "law" "law" s_law f0 fd0) (C_l_generator : Cal P w K mg base "_law_generator" ["_law_script", "_law_index"] 2 (spGen K)) (C_l_random_house : Cal P w K mg base "_law_random_house" ["_law_generator_here", "_law_most"] 4 (spHouse K))
    (C_l_random : Cal P w K mg base "_law_random" ["_law_generator_here", "_law_bound"] 2 spRand) (C_l_random_state : Cal P w K mg base "_law_random_state" ["_law_generator_here", "_law_doors", "_law_people"] 3 (spRState K))
    (C_l_random_steps : Cal P w K mg base "_law_random_steps" ["_law_generator_here", "_law_doors", "_law_position", "_law_most"] 3 (spRSteps K)) (C_l_bits : Cal P w K mg base "_law_bits" ["_law_doors", "_law_position"] 3 (spKept K)) (C_l_moved : Cal P w K mg base "_law_moved" ["_law_doors", "_law_position", "_law_step"] 2 (spMoved K))
    (C_kept_bits : Cal P w K mg base "kept_bits" ["house", "state"] 8 (spKept K)) (C_state_of_bits : Cal P w K mg base "state_of_bits" ["house", "bits", "a", "b"] 7 (spSOB K))
    (C_l_rooms_right : Cal P w K mg base "_law_rooms_right" ["_law_doors", "_law_bits_here", "_law_one", "_law_other"] 9 (spRR K)) : FnOk P w K mg base CX0 10 f0 fd0 ["_law_script"] (spLaw K) := by
  refine F.ok sc_law (fun vs H Q E h => ?_) (fun cdv A outer s0 H vs Q E hr h => ?_)
  · obtain ⟨a, ns, rfl, _⟩ := h
    rfl
  obtain ⟨a, ns, rfl, hs, hns, qn⟩ := h
  obtain ⟨f_l_generator, fd_l_generator, g_l_generator, k_l_generator, b_l_generator, G_l_generator⟩ := C_l_generator
  obtain ⟨f_l_random_house, fd_l_random_house, g_l_random_house, k_l_random_house, b_l_random_house, G_l_random_house⟩ := C_l_random_house
  obtain ⟨f_l_random_state, fd_l_random_state, g_l_random_state, k_l_random_state, b_l_random_state, G_l_random_state⟩ := C_l_random_state
  obtain ⟨f_l_random_steps, fd_l_random_steps, g_l_random_steps, k_l_random_steps, b_l_random_steps, G_l_random_steps⟩ := C_l_random_steps
  obtain ⟨f_l_bits, fd_l_bits, g_l_bits, k_l_bits, b_l_bits, G_l_bits⟩ := C_l_bits
  obtain ⟨f_l_moved, fd_l_moved, g_l_moved, k_l_moved, b_l_moved, G_l_moved⟩ := C_l_moved
  obtain ⟨f_kept_bits, fd_kept_bits, g_kept_bits, k_kept_bits, b_kept_bits, G_kept_bits⟩ := C_kept_bits
  obtain ⟨f_state_of_bits, fd_state_of_bits, g_state_of_bits, k_state_of_bits, b_state_of_bits, G_state_of_bits⟩ := C_state_of_bits
  obtain ⟨f_l_random, fd_l_random, g_l_random, k_l_random, b_l_random, G_l_random⟩ := C_l_random
  obtain ⟨f_l_rooms_right, fd_l_rooms_right, g_l_rooms_right, k_l_rooms_right, b_l_rooms_right, G_l_rooms_right⟩ := C_l_rooms_right
  refine ⟨_, (pss_cons (ps_for PassesOwn.never rfl (pi_range1 rfl T.range (pa_cons pe_int pa_nil)) (pg_name (i := 1) sc_law.nd rfl (.inl rfl))
    (pss_cons (ps_set (i := 2) sc_law.nd rfl (.inr rfl) (pe_call G_l_generator (hr.mono (by decide)) (by rfl) g_l_generator k_l_generator b_l_generator .nil pass0 (pa_cons (pv 0) (pa_cons (pv 1) pa_nil))))
    (pss_cons (ps_set (i := 3) sc_law.nd rfl (.inr rfl) (pe_call G_l_random_house (hr.mono (by decide)) (by rfl) g_l_random_house k_l_random_house b_l_random_house .nil pass0 (pa_cons (pv 2) (pa_cons pe_int pa_nil))))
    (pss_cons (ps_set (i := 4) sc_law.nd rfl (.inl rfl) (pe_call G_l_random_state (hr.mono (by decide)) (by rfl) g_l_random_state k_l_random_state b_l_random_state .nil pass0 (pa_cons (pv 2) (pa_cons (pv 3) (pa_cons pe_int pa_nil)))))
    (pss_cons (ps_asg (pe_call G_l_random_steps (hr.mono (by decide)) (by rfl) g_l_random_steps k_l_random_steps b_l_random_steps .nil pass0 (pa_cons (pv 2) (pa_cons (pv 3) (pa_cons (pv 4) (pa_cons pe_int pa_nil))))) (pg_unl (n := 2) rfl (pgs_cons (pg_name (i := 5) sc_law.nd rfl (.inl rfl)) (pgs_cons (pg_name (i := 6) sc_law.nd rfl (.inl rfl)) pgs_nil))))
    (pss_cons (ps_set (i := 7) sc_law.nd rfl (.inl rfl) (pe_call G_l_bits (hr.mono (by decide)) (by rfl) g_l_bits k_l_bits b_l_bits .nil pass0 (pa_cons (pv 3) (pa_cons (pv 4) pa_nil))))
    (pss_cons (ps_set (i := 8) sc_law.nd rfl (.inl rfl) (pv 4))
    (pss_cons (ps_for PassesOwn.never rfl (pi_list (pe_op op_cat (pe_lst (pa_cons pe_non pa_nil)) (pv 5))) (pg_name (i := 9) sc_law.nd rfl (.inl rfl))
    (pss_cons (ps_if (pt_cmpR op_notN (pv 9) pe_non (nomark _)) (pss_one (ps_set (i := 8) sc_law.nd rfl (.inl rfl) (pe_ix ix_list (pe_call G_l_moved (hr.mono (by decide)) (by rfl) g_l_moved k_l_moved b_l_moved .nil pass0 (pa_cons (pv 3) (pa_cons (pv 8) (pa_cons (pv 9) pa_nil)))) pe_int (fun _ _ => rfl)))) pss_nil)
    (pss_cons (ps_if (pt_cmpR (op_neD hr.units) (pe_call G_kept_bits (hr.mono (by decide)) (by rfl) g_kept_bits k_kept_bits b_kept_bits .nil pass0 (pa_cons (pv 3) (pa_cons (pv 8) pa_nil))) (pv 7) (nomark _)) (pss_one (ps_ret pe_bl)) pss_nil)
    (pss_one (ps_if (pt_cmpR (op_neD hr.units) (pe_call G_state_of_bits (hr.mono (by decide)) (by rfl) g_state_of_bits k_state_of_bits b_state_of_bits .nil pass0 (pa_cons (pv 3) (pa_cons (pv 7) (pa_cons (pe_ix ix_tup (pe_ix ix_tup (pv 8) pe_int (fun _ _ => rfl)) pe_int (fun _ _ => rfl)) (pa_cons (pe_ix ix_tup (pe_ix ix_tup (pv 8) pe_int (fun _ _ => rfl)) pe_int (fun _ _ => rfl)) pa_nil))))) (pv 8) (nomark _)) (pss_one (ps_ret pe_bl)) pss_nil)))))
    (pss_one (ps_for PassesOwn.never rfl (pi_range1 rfl T.range (pa_cons pe_int pa_nil)) (pg_name (i := 10) sc_law.nd rfl (.inl rfl))
    (pss_cons (ps_asg (pe_lc (own := [("_law_person", 13)]) (g := gName 13)  (te := (tCall spRand [] E0 (tCons (tVar 2) (tCons (tOp (rI0 fun i j => .int (i + j)) (tCB (fun xs H Q => ∃ p ys, xs = [V.ref p] ∧ (SqL K H p ys ∨ SqT K H p ys) ∧ Q (.int ys.length) H) (tCons (tVar 3) tNil)) (tC (.int 1))) tNil)))) rfl sc_law.nd (pi_range1 rfl T.range (pa_cons pe_int pa_nil)) (blkOk_by (N := N_law) (sc := defScope s_law) (own := [("_law_person", 13)]) (by decide +kernel)) (fun _ _ _ _ _ => (pg_name (i := 13) sc_law.nd rfl (.inl rfl) (.inr rfl))) (fun _ _ _ _ _ => pts_nil) (fun _ _ _ _ _ => (pe_call G_l_random (hr.mono (by decide)) (by rfl) g_l_random k_l_random b_l_random .nil pass0 (pa_cons (pv 2) (pa_cons (pe_op op_add (pe_callB call_len_seq (by rfl) T.len PySem.boot_len (pa_cons (pv 3) pa_nil)) pe_int) pa_nil))))) (pg_unl (n := 2) rfl (pgs_cons (pg_name (i := 11) sc_law.nd rfl (.inl rfl)) (pgs_cons (pg_name (i := 12) sc_law.nd rfl (.inl rfl)) pgs_nil))))
    (pss_one (ps_if (pt_not (pt_val (pe_call G_l_rooms_right (hr.mono (by decide)) (by rfl) g_l_rooms_right k_l_rooms_right b_l_rooms_right .nil pass0 (pa_cons (pv 3) (pa_cons (pv 7) (pa_cons (pv 11) (pa_cons (pv 12) pa_nil))))))) (pss_one (ps_ret pe_bl)) pss_nil)))))))))))))
    (pss_one (ps_ret pe_bl))), ?_⟩
  refine ⟨4, rfl, by decide, by decide, ?_⟩
  refine for_range (lo := 0) (n := 4) (fun i σ H1 => ∃ y1 y2 y3 y4 y5 y6 y7 y8 y9 y10 y11 y12, σ = [some (.ref a), y1, y2, y3, y4, y5, y6, y7, y8, y9, y10, y11, y12, none] ∧ Same H H1) ⟨_, _, _, _, _, _, _, _, _, _, _, _, rfl, Same.refl _⟩ ?_ ?_
  · rintro i σ H1 hi ⟨y1, y2, y3, y4, y5, y6, y7, y8, y9, y10, y11, y12, rfl, s1⟩
    rw [Int.zero_add]
    refine ⟨_, rfl, _, rfl, a, ns, i, rfl, s1.seq hs, by omega, fun H2 g s2 ng gen => ?_⟩
    have s12 := s1.trans s2
    have ng0 := s1.free ng
    refine ⟨_, rfl, g, 1000000, 12, rfl, gen, by decide, by decide, by decide, fun H3 d ds n bt gen3 ndg house tree hn => ?_⟩
    have hdn := tree.len
    have hn1 : 1 ≤ n := by omega
    refine ⟨_, rfl, _, rfl, g, d, 1001000, 2, n, ds, rfl, gen3, house, tree, by omega, by decide, by decide, by decide, fun H4 sp S bt4 g4 st4 ok4 len2 => ?_⟩
    obtain ⟨gx3, hgx3⟩ := gen3.lst
    have house4 := house.but hgx3 bt4
    refine ⟨_, rfl, _, rfl, _, rfl, g, d, sp, 1001100, n, 40, ds, S, rfl, g4, house4, tree, by omega, st4, ok4, by decide, by decide, fun H5 q5 sl sf l S' bt5 g5 hq5 tl nslg vm llen run stf okf lenf => ?_⟩
    obtain ⟨gx4, hgx4⟩ := g4.lst
    have house5 := house4.but hgx4 bt5
    have st5 := st4.but hgx4 bt5
    obtain ⟨x, y, hS⟩ := two_rooms len2
    refine ⟨q5, _, rfl, SqL.of hq5, rfl, _, _, rfl, _, _, rfl, rfl, ?_⟩
    refine ⟨_, rfl, _, rfl, d, sp, ds, n, x, y, S, rfl, house5, tree, by omega, st5, ok4, hS, fun H6 bp p s6 hbp wk nd => ?_⟩
    have two : Two (turn p S.2) := turn_two fun z hz => by
      have := ok4.bars z hz
      rw [hS] at this
      exact this
    have hBl : (turn p S.2).length = ds.length := by rw [turn_len]; exact ok4.doors
    have xn : x < n := ok4.rooms x (by rw [hS]; simp)
    have yn : y < n := ok4.rooms y (by rw [hS]; simp)
    have house6 := house5.same s6
    have st6 := st5.same s6
    have g6 := g5.same s6
    have bt36 : But g H3 H6 := (bt4.trans bt5).trans s6.but
    obtain ⟨ts, f1, f2⟩ := tl.same s6
    have f3 := f2.1
    refine ⟨_, rfl, by show 1 ≤ sizeLine; decide, fun p1 np1 => ?_⟩
    have sp1 := Same.upd (o := .lst [.non]) np1
    refine ⟨_, rfl, p1, sl, [.non], ts.map V.ref, rfl, rfl, upd_same, sp1 _ _ f1, by rw [List.length_map, f3]; show 1 + l.length ≤ sizeLine; exact Nat.le_of_lt (small1000 (by omega)), fun pc npc => ?_⟩
    have sp2 := sp1.trans (Same.upd (o := .lst ([.non] ++ ts.map V.ref)) npc)
    have hpc : (upd (upd H6 p1 (.lst [.non])) pc (.lst ([.non] ++ ts.map V.ref))) pc = some (.lst (.non :: ts.map V.ref)) := upd_same
    generalize upd (upd H6 p1 (.lst [.non])) pc (.lst ([.non] ++ ts.map V.ref)) = H7 at sp2 hpc
    refine ⟨pc, rfl, ⟨_, SqL.of hpc⟩, ?_⟩
    have hB0 : ∃ pz, Walk ds x pz y ∧ pz.Nodup ∧ turn pz S.2 = turn p S.2 := ⟨p, wk, nd, rfl⟩
    generalize hBB : turn p S.2 = B at hB0 two hBl hbp
    refine for_it (walk_list (K := K) (a := pc) (xs := .non :: ts.map V.ref)) (fun k σ H8 => ∃ (c : Addr) (Sc : S2) (xc yc : Nat) (y9 : Option V), σ = [some (.ref a), some (.int (i : Int)), some (.ref g), some (.ref d), some (.ref sp), some (.ref sl), some (.ref sf), some (.ref bp), some (.ref c), y9, y10, y11, y12, none] ∧ Same H7 H8 ∧ StateAt K H8 c Sc ∧ StOk n ds Sc ∧ Sc.1 = [xc, yc] ∧ (∃ pz, Walk ds xc pz yc ∧ pz.Nodup ∧ turn pz Sc.2 = B) ∧ runs ds (k - 1) Sc (l.drop (k - 1)) = .inr S')
      ⟨sp, S, x, y, _, rfl, Same.refl _, st6.same sp2, ok4, hS, hB0, run⟩ (fun k σ H8 _ ⟨_, _, _, _, _, _, sm, _⟩ => SqL.of (sm _ _ hpc)) ?_ ?_
    · rintro k v σ H8 H9 hk ⟨c, Sc, xc, yc, y9, rfl, sm, stc, okc, hSc, ⟨pz, wz, nz, inv⟩, rn⟩ ⟨rfl, ex⟩
      have ex : ((.non :: ts.map V.ref : List V))[k]? = some v := ex
      have sm6 := sp2.trans sm
      have houseK := house6.same sm6
      have lenc : Sc.1.length = 2 := by rw [hSc]; rfl
      rcases Nat.eq_zero_or_pos k with hk0 | hkp
      rotate_left
      obtain ⟨j, rfl⟩ : ∃ j, k = j + 1 := ⟨k - 1, by omega⟩
      rw [Nat.add_sub_cancel] at rn
      have hj : j < l.length := by
        rw [List.length_cons, List.length_map, f3] at hk
        omega
      obtain ⟨t, ht⟩ : ∃ t, ts[j]? = some t := get_of f3 hj
      obtain ⟨m, hm⟩ : ∃ m, l[j]? = some m := get_of rfl hj
      rw [List.getElem?_cons_succ, List.getElem?_map, ht] at ex
      cases ex
      have hmt := sm6 _ _ (f2.2 j t m ht hm)
      rw [runs_drop hm] at rn
      have hwhy : why ds Sc m = none := by
        cases hq : why ds Sc m with
        | none => rfl
        | some w =>
          rw [hq] at rn
          cases rn
      rw [hwhy] at rn
      have vmm : VM ds Sc.1.length m := by
        have := vm m (List.mem_of_getElem? hm)
        rw [len2] at this
        rw [lenc]
        exact this
      obtain ⟨xd, yd, hSd, invd⟩ := kept_step tree okc hSc vmm hwhy
      refine ⟨_, rfl, rfl, _, rfl, iteT ?_⟩
      refine ⟨_, rfl, _, rfl, _, rfl, d, c, t, n, ds, Sc, m, rfl, houseK, tree, by omega, stc, okc, hmt, vmm, ⟨fun w hw2 => (by rw [hwhy] at hw2; cases hw2), fun _ HN q9 cd smN hq9 std => ?_⟩⟩
      refine ⟨q9, _, _, _, rfl, rfl, SqL.of hq9, atI_nat (j := 1) rfl, ?_⟩
      have okd := okc.nxt tree vmm
      have houseN := houseK.same smN
      have smd := sm.trans smN
      have rnd : runs ds (j + 1 + 1 - 1) (nxt ds Sc m) (l.drop (j + 1 + 1 - 1)) = .inr S' := rn
      have inv2 : ∀ p', Walk ds xd p' yd → p'.Nodup → turn p' (nxt ds Sc m).2 = B := fun p' w' n' => by
        rw [invd pz p' wz nz w' n']
        exact inv
      clear inv rn hwhy vmm invd okc stc sm houseK sm6
      generalize nxt ds Sc m = Sd at hSd inv2 rnd okd std
      rotate_left
      subst hk0
      obtain rfl : V.non = v := Option.some.inj ex
      refine ⟨_, rfl, rfl, _, rfl, iteF ?_⟩
      have okd := okc
      have smd := sm
      have std := stc
      have hSd := hSc
      have houseN := houseK
      have inv2 : ∀ p', Walk ds xc p' yc → p'.Nodup → turn p' Sc.2 = B := fun p' w' n' => by
        rw [way_unique tree w' wz n' nz]
        exact inv
      have rnd : runs ds (0 + 1 - 1) Sc (l.drop (0 + 1 - 1)) = .inr S' := rn
      all_goals
        obtain ⟨rd, bd, d1, d2, d3⟩ := id std
        have rl := okd.rooms
        have twoD : Two _ := fun z hz => by
          have := okd.bars z hz
          rw [hSd] at this
          exact this
        rw [hSd] at d2 rl
        refine ⟨_, rfl, _, rfl, d, _, ds, n, _, _, _, rfl, houseN, tree, by omega, std, okd, hSd, fun HA qa pa sA hqa wka nda => ?_⟩
        rw [inv2 pa wka nda] at hqa
        have smA := smd.trans sA
        refine ⟨_, rfl, dT B, dT B, dp_T hqa, dp_T ((sp2.trans smA).tup hbp), dT_shaped _, dT_shaped _, _, rfl, ?_⟩
        rw [dT_ne]
        refine iteF ?_
        refine ⟨_, rfl, _, rfl, _, rfl, _, _, _, _, rfl, rfl, sA.tup d1, atI_nat (j := 0) rfl, rd, _, _, _, rfl, rfl, sA.tup d2, atI_nat (j := 0) rfl, _, rfl, _, _, _, _, rfl, rfl, sA.tup d1, atI_nat (j := 0) rfl, rd, _, _, _, rfl, rfl, sA.tup d2, atI_nat (j := 1) rfl, d, bp, ds, n, _, _, B, rfl, houseN.same sA, tree, by omega, (sp2.trans smA).tup hbp, hBl, two, rl _ (by simp), rl _ (by simp), fun HB qb pb sB stb wkb ndb => ?_⟩
        rw [← inv2 pb wkb ndb, turn_turn twoD, ← hSd] at stb
        refine ⟨_, rfl, dS _, dS _, dp_S stb, dp_S ((std.same sA).same sB), dS_shaped _, dS_shaped _, _, rfl, ?_⟩
        rw [d_refl (dS_shaped _)]
        refine iteF ?_
        exact ⟨_, _, _, _, _, rfl, smA.trans sB, (std.same sA).same sB, okd, hSd, ⟨pb, wkb, ndb, inv2 pb wkb ndb⟩, rnd⟩
    · rintro σ H8 ⟨c, Sc, xc, yc, y9, rfl, sm, stc, okc, hSc, inv, rn⟩
      have sm6 := sp2.trans sm
      have house8 := house6.same sm6
      have g8 := g6.same sm6
      have hbp8 := sm6.tup hbp
      obtain ⟨gx8, hgx8⟩ := g8.lst
      have bt38 := bt36.trans sm6.but
      clear sm stc okc hSc inv rn
      refine ⟨6, rfl, by decide, by decide, ?_⟩
      refine for_range (lo := 0) (n := 6) (fun j σ H9 => ∃ (y10 y11 y12 : Option V), σ = [some (.ref a), some (.int (i : Int)), some (.ref g), some (.ref d), some (.ref sp), some (.ref sl), some (.ref sf), some (.ref bp), some (.ref c), y9, y10, y11, y12, none] ∧ But g H8 H9 ∧ GenAt H9 g (1001200 + 2 * j)) ⟨_, _, _, rfl, (Same.refl _).but, g8⟩ ?_ ?_
      · rintro j σ H9 hj ⟨y10, y11, y12, rfl, bt9, g9⟩
        rw [Int.zero_add]
        have house9 := house8.but hgx8 bt9
        have hbp9 := bt9.tup hgx8 hbp8
        obtain ⟨gx9, hgx9⟩ := g9.lst
        obtain ⟨rs, hrs, hlen, _⟩ := id house9
        refine ⟨2, rfl, by decide, by decide, fun pr npr => ?_⟩
        have nprg : pr ≠ g := g9.ne npr
        refine lc_range (lo := 0) (n := 2) (fun k HA => ∃ L : List Nat, But g H9 HA ∧ GenAt HA g (1001200 + 2 * j + k) ∧ HA pr = some (.lst (nv L)) ∧ L.length = k ∧ ∀ x ∈ L, x < n) ⟨[], (Same.upd npr).but, g9.at nprg, upd_same, rfl, fun x hx => (List.not_mem_nil hx).elim⟩ ?_ ?_
        · rintro k HA hk ⟨L, btA, gA, hL, hl, lt⟩
          have en : (((rs.map V.ref).length : Nat) : Int) + 1 = ((n : Nat) : Int) := by
            rw [List.length_map, hlen]
            omega
          refine ⟨rfl, lcYes ?_⟩
          refine ⟨_, rfl, _, rfl, _, _, rfl, .inr (btA.tup hgx9 hrs), _, _, rfl, rfl, g, 1001200 + 2 * j + k, n, congrArg (fun z => [V.ref g, V.int z]) en, gA, by omega, by omega, by omega, fun HB z btB gB hz => ?_⟩
          refine ⟨_, btB _ _ nprg hL, by rw [nv_len]; exact small1000 (by omega), L ++ [z], (btA.trans btB).at npr _, gB.at nprg, by rw [upd_same, nv_snoc], by simp [hl], fun x hx => ?_⟩
          rcases List.mem_append.mp hx with hx | hx
          · exact lt x hx
          · rw [List.mem_singleton] at hx
            rw [hx]
            exact hz
        · rintro HA ⟨L, btA, gA, hL, hl, lt⟩
          obtain ⟨o1, o2, rfl⟩ : ∃ o1 o2, L = [o1, o2] := by
            match L, hl with
            | [o1, o2], _ => exact ⟨o1, o2, rfl⟩
          refine ⟨pr, _, rfl, SqL.of hL, rfl, _, _, rfl, _, _, rfl, rfl, ?_⟩
          refine ⟨_, rfl, _, rfl, _, rfl, _, rfl, d, bp, ds, n, o1, o2, B, rfl, house9.but hgx9 btA, tree, by omega, btA.tup hgx9 hbp9, hBl, two, lt o1 (by simp), lt o2 (by simp), fun HB sB => ⟨_, rfl, iteF ?_⟩⟩
          exact ⟨_, _, _, rfl, (bt9.trans btA).trans sB.but, (gA.same sB).mono (by omega)⟩
      · rintro σ H9 ⟨y10, y11, y12, rfl, bt9, g9⟩
        exact ⟨_, _, _, _, _, _, _, _, _, _, _, _, rfl, s1.trans (But.same s2 ng (bt.trans (bt38.trans bt9)))⟩
  · rintro σ H1 ⟨y1, y2, y3, y4, y5, y6, y7, y8, y9, y10, y11, y12, rfl, s1⟩
    exact qn H1
end
end K5

namespace K5
open PySem PySem.Spec PyProof.Rows L2
theorem def_mk {K : PySem.W.Frag} {h : Heap} {mg : Str → Option Value} {x : Str} {st : Stmt} (X : K.In h) (G : h.Ns mainGlobals mg) {f : Addr} {oc : Value} {od an : Option Addr} {osl : Array (Option Value)} {kV doc pm cdv ct : Value} (a : PySem.W.nsIn K mainGlobals x = some (some (.ref f)))
    (l : K.lookup f = some ⟨oc, od, .func (PySem.W.fnOf x x (defArgs st) (defBody st) (defScope st) .none kV doc pm an cdv ct), osl⟩) (c : PySem.W.codeIn K cdv x = true) (k : PySem.W.keepIn K (.ref f) = true) : Def K mg x st :=
  ⟨f, _, fun_mk l c k, PySem.W.mg_of X G a⟩
theorem all_mk {l : PySem.W.OpenLaw} {w : World} {K : PySem.W.Frag} {h : Heap} {mg : Str → Option Value} {fa : Addr} (X : K.In h) (G : h.Ns mainGlobals mg) (hfa : mg "law" = some (.ref fa))
    {f0 : Addr} {od0 an0 : Option Addr} {sl0 : Array (Option Value)} {oc0 kV0 dc0 pm0 cd0 ct0 : Value}
    (a0 : PySem.W.nsIn K mainGlobals "is_whole" = some (some (.ref f0))) (l0 : K.lookup f0 = some ⟨oc0, od0, .func (PySem.W.fnOf "is_whole" "is_whole" (defArgs s_is_whole) (defBody s_is_whole) (defScope s_is_whole) .none kV0 dc0 pm0 an0 cd0 ct0), sl0⟩) (c0 : PySem.W.codeIn K cd0 "is_whole" = true) (k0 : PySem.W.keepIn K (.ref f0) = true)
    {f1 : Addr} {od1 an1 : Option Addr} {sl1 : Array (Option Value)} {oc1 kV1 dc1 pm1 cd1 ct1 : Value}
    (a1 : PySem.W.nsIn K mainGlobals "is_index" = some (some (.ref f1))) (l1 : K.lookup f1 = some ⟨oc1, od1, .func (PySem.W.fnOf "is_index" "is_index" (defArgs s_is_index) (defBody s_is_index) (defScope s_is_index) .none kV1 dc1 pm1 an1 cd1 ct1), sl1⟩) (c1 : PySem.W.codeIn K cd1 "is_index" = true) (k1 : PySem.W.keepIn K (.ref f1) = true)
    {f2 : Addr} {od2 an2 : Option Addr} {sl2 : Array (Option Value)} {oc2 kV2 dc2 pm2 cd2 ct2 : Value}
    (a2 : PySem.W.nsIn K mainGlobals "is_door" = some (some (.ref f2))) (l2 : K.lookup f2 = some ⟨oc2, od2, .func (PySem.W.fnOf "is_door" "is_door" (defArgs s_is_door) (defBody s_is_door) (defScope s_is_door) .none kV2 dc2 pm2 an2 cd2 ct2), sl2⟩) (c2 : PySem.W.codeIn K cd2 "is_door" = true) (k2 : PySem.W.keepIn K (.ref f2) = true)
    {f3 : Addr} {od3 an3 : Option Addr} {sl3 : Array (Option Value)} {oc3 kV3 dc3 pm3 cd3 ct3 : Value}
    (a3 : PySem.W.nsIn K mainGlobals "check_house" = some (some (.ref f3))) (l3 : K.lookup f3 = some ⟨oc3, od3, .func (PySem.W.fnOf "check_house" "check_house" (defArgs s_check_house) (defBody s_check_house) (defScope s_check_house) .none kV3 dc3 pm3 an3 cd3 ct3), sl3⟩) (c3 : PySem.W.codeIn K cd3 "check_house" = true) (k3 : PySem.W.keepIn K (.ref f3) = true)
    {f4 : Addr} {od4 an4 : Option Addr} {sl4 : Array (Option Value)} {oc4 kV4 dc4 pm4 cd4 ct4 : Value}
    (a4 : PySem.W.nsIn K mainGlobals "first_ring" = some (some (.ref f4))) (l4 : K.lookup f4 = some ⟨oc4, od4, .func (PySem.W.fnOf "first_ring" "first_ring" (defArgs s_first_ring) (defBody s_first_ring) (defScope s_first_ring) .none kV4 dc4 pm4 an4 cd4 ct4), sl4⟩) (c4 : PySem.W.codeIn K cd4 "first_ring" = true) (k4 : PySem.W.keepIn K (.ref f4) = true)
    {f5 : Addr} {od5 an5 : Option Addr} {sl5 : Array (Option Value)} {oc5 kV5 dc5 pm5 cd5 ct5 : Value}
    (a5 : PySem.W.nsIn K mainGlobals "find_root" = some (some (.ref f5))) (l5 : K.lookup f5 = some ⟨oc5, od5, .func (PySem.W.fnOf "find_root" "find_root" (defArgs s_find_root) (defBody s_find_root) (defScope s_find_root) .none kV5 dc5 pm5 an5 cd5 ct5), sl5⟩) (c5 : PySem.W.codeIn K cd5 "find_root" = true) (k5 : PySem.W.keepIn K (.ref f5) = true)
    {f6 : Addr} {od6 an6 : Option Addr} {sl6 : Array (Option Value)} {oc6 kV6 dc6 pm6 cd6 ct6 : Value}
    (a6 : PySem.W.nsIn K mainGlobals "need_house" = some (some (.ref f6))) (l6 : K.lookup f6 = some ⟨oc6, od6, .func (PySem.W.fnOf "need_house" "need_house" (defArgs s_need_house) (defBody s_need_house) (defScope s_need_house) .none kV6 dc6 pm6 an6 cd6 ct6), sl6⟩) (c6 : PySem.W.codeIn K cd6 "need_house" = true) (k6 : PySem.W.keepIn K (.ref f6) = true)
    {f7 : Addr} {od7 an7 : Option Addr} {sl7 : Array (Option Value)} {oc7 kV7 dc7 pm7 cd7 ct7 : Value}
    (a7 : PySem.W.nsIn K mainGlobals "need_room" = some (some (.ref f7))) (l7 : K.lookup f7 = some ⟨oc7, od7, .func (PySem.W.fnOf "need_room" "need_room" (defArgs s_need_room) (defBody s_need_room) (defScope s_need_room) .none kV7 dc7 pm7 an7 cd7 ct7), sl7⟩) (c7 : PySem.W.codeIn K cd7 "need_room" = true) (k7 : PySem.W.keepIn K (.ref f7) = true)
    {f8 : Addr} {od8 an8 : Option Addr} {sl8 : Array (Option Value)} {oc8 kV8 dc8 pm8 cd8 ct8 : Value}
    (a8 : PySem.W.nsIn K mainGlobals "exits_of" = some (some (.ref f8))) (l8 : K.lookup f8 = some ⟨oc8, od8, .func (PySem.W.fnOf "exits_of" "exits_of" (defArgs s_exits_of) (defBody s_exits_of) (defScope s_exits_of) .none kV8 dc8 pm8 an8 cd8 ct8), sl8⟩) (c8 : PySem.W.codeIn K cd8 "exits_of" = true) (k8 : PySem.W.keepIn K (.ref f8) = true)
    {f9 : Addr} {od9 an9 : Option Addr} {sl9 : Array (Option Value)} {oc9 kV9 dc9 pm9 cd9 ct9 : Value}
    (a9 : PySem.W.nsIn K mainGlobals "ways_from" = some (some (.ref f9))) (l9 : K.lookup f9 = some ⟨oc9, od9, .func (PySem.W.fnOf "ways_from" "ways_from" (defArgs s_ways_from) (defBody s_ways_from) (defScope s_ways_from) .none kV9 dc9 pm9 an9 cd9 ct9), sl9⟩) (c9 : PySem.W.codeIn K cd9 "ways_from" = true) (k9 : PySem.W.keepIn K (.ref f9) = true)
    {f10 : Addr} {od10 an10 : Option Addr} {sl10 : Array (Option Value)} {oc10 kV10 dc10 pm10 cd10 ct10 : Value}
    (a10 : PySem.W.nsIn K mainGlobals "steps_along" = some (some (.ref f10))) (l10 : K.lookup f10 = some ⟨oc10, od10, .func (PySem.W.fnOf "steps_along" "steps_along" (defArgs s_steps_along) (defBody s_steps_along) (defScope s_steps_along) .none kV10 dc10 pm10 an10 cd10 ct10), sl10⟩) (c10 : PySem.W.codeIn K cd10 "steps_along" = true) (k10 : PySem.W.keepIn K (.ref f10) = true)
    {f11 : Addr} {od11 an11 : Option Addr} {sl11 : Array (Option Value)} {oc11 kV11 dc11 pm11 cd11 ct11 : Value}
    (a11 : PySem.W.nsIn K mainGlobals "steps_between" = some (some (.ref f11))) (l11 : K.lookup f11 = some ⟨oc11, od11, .func (PySem.W.fnOf "steps_between" "steps_between" (defArgs s_steps_between) (defBody s_steps_between) (defScope s_steps_between) .none kV11 dc11 pm11 an11 cd11 ct11), sl11⟩) (c11 : PySem.W.codeIn K cd11 "steps_between" = true) (k11 : PySem.W.keepIn K (.ref f11) = true)
    {f12 : Addr} {od12 an12 : Option Addr} {sl12 : Array (Option Value)} {oc12 kV12 dc12 pm12 cd12 ct12 : Value}
    (a12 : PySem.W.nsIn K mainGlobals "doors_between" = some (some (.ref f12))) (l12 : K.lookup f12 = some ⟨oc12, od12, .func (PySem.W.fnOf "doors_between" "doors_between" (defArgs s_doors_between) (defBody s_doors_between) (defScope s_doors_between) .none kV12 dc12 pm12 an12 cd12 ct12), sl12⟩) (c12 : PySem.W.codeIn K cd12 "doors_between" = true) (k12 : PySem.W.keepIn K (.ref f12) = true)
    {f13 : Addr} {od13 an13 : Option Addr} {sl13 : Array (Option Value)} {oc13 kV13 dc13 pm13 cd13 ct13 : Value}
    (a13 : PySem.W.nsIn K mainGlobals "has_state_shape" = some (some (.ref f13))) (l13 : K.lookup f13 = some ⟨oc13, od13, .func (PySem.W.fnOf "has_state_shape" "has_state_shape" (defArgs s_has_state_shape) (defBody s_has_state_shape) (defScope s_has_state_shape) .none kV13 dc13 pm13 an13 cd13 ct13), sl13⟩) (c13 : PySem.W.codeIn K cd13 "has_state_shape" = true) (k13 : PySem.W.keepIn K (.ref f13) = true)
    {f14 : Addr} {od14 an14 : Option Addr} {sl14 : Array (Option Value)} {oc14 kV14 dc14 pm14 cd14 ct14 : Value}
    (a14 : PySem.W.nsIn K mainGlobals "check_state" = some (some (.ref f14))) (l14 : K.lookup f14 = some ⟨oc14, od14, .func (PySem.W.fnOf "check_state" "check_state" (defArgs s_check_state) (defBody s_check_state) (defScope s_check_state) .none kV14 dc14 pm14 an14 cd14 ct14), sl14⟩) (c14 : PySem.W.codeIn K cd14 "check_state" = true) (k14 : PySem.W.keepIn K (.ref f14) = true)
    {f15 : Addr} {od15 an15 : Option Addr} {sl15 : Array (Option Value)} {oc15 kV15 dc15 pm15 cd15 ct15 : Value}
    (a15 : PySem.W.nsIn K mainGlobals "need_state" = some (some (.ref f15))) (l15 : K.lookup f15 = some ⟨oc15, od15, .func (PySem.W.fnOf "need_state" "need_state" (defArgs s_need_state) (defBody s_need_state) (defScope s_need_state) .none kV15 dc15 pm15 an15 cd15 ct15), sl15⟩) (c15 : PySem.W.codeIn K cd15 "need_state" = true) (k15 : PySem.W.keepIn K (.ref f15) = true)
    {f16 : Addr} {od16 an16 : Option Addr} {sl16 : Array (Option Value)} {oc16 kV16 dc16 pm16 cd16 ct16 : Value}
    (a16 : PySem.W.nsIn K mainGlobals "need_pair" = some (some (.ref f16))) (l16 : K.lookup f16 = some ⟨oc16, od16, .func (PySem.W.fnOf "need_pair" "need_pair" (defArgs s_need_pair) (defBody s_need_pair) (defScope s_need_pair) .none kV16 dc16 pm16 an16 cd16 ct16), sl16⟩) (c16 : PySem.W.codeIn K cd16 "need_pair" = true) (k16 : PySem.W.keepIn K (.ref f16) = true)
    {f17 : Addr} {od17 an17 : Option Addr} {sl17 : Array (Option Value)} {oc17 kV17 dc17 pm17 cd17 ct17 : Value}
    (a17 : PySem.W.nsIn K mainGlobals "need_bits" = some (some (.ref f17))) (l17 : K.lookup f17 = some ⟨oc17, od17, .func (PySem.W.fnOf "need_bits" "need_bits" (defArgs s_need_bits) (defBody s_need_bits) (defScope s_need_bits) .none kV17 dc17 pm17 an17 cd17 ct17), sl17⟩) (c17 : PySem.W.codeIn K cd17 "need_bits" = true) (k17 : PySem.W.keepIn K (.ref f17) = true)
    {f18 : Addr} {od18 an18 : Option Addr} {sl18 : Array (Option Value)} {oc18 kV18 dc18 pm18 cd18 ct18 : Value}
    (a18 : PySem.W.nsIn K mainGlobals "need_bits_and_rooms" = some (some (.ref f18))) (l18 : K.lookup f18 = some ⟨oc18, od18, .func (PySem.W.fnOf "need_bits_and_rooms" "need_bits_and_rooms" (defArgs s_need_bits_and_rooms) (defBody s_need_bits_and_rooms) (defScope s_need_bits_and_rooms) .none kV18 dc18 pm18 an18 cd18 ct18), sl18⟩) (c18 : PySem.W.codeIn K cd18 "need_bits_and_rooms" = true) (k18 : PySem.W.keepIn K (.ref f18) = true)
    {f19 : Addr} {od19 an19 : Option Addr} {sl19 : Array (Option Value)} {oc19 kV19 dc19 pm19 cd19 ct19 : Value}
    (a19 : PySem.W.nsIn K mainGlobals "turned_on_path" = some (some (.ref f19))) (l19 : K.lookup f19 = some ⟨oc19, od19, .func (PySem.W.fnOf "turned_on_path" "turned_on_path" (defArgs s_turned_on_path) (defBody s_turned_on_path) (defScope s_turned_on_path) .none kV19 dc19 pm19 an19 cd19 ct19), sl19⟩) (c19 : PySem.W.codeIn K cd19 "turned_on_path" = true) (k19 : PySem.W.keepIn K (.ref f19) = true)
    {f20 : Addr} {od20 an20 : Option Addr} {sl20 : Array (Option Value)} {oc20 kV20 dc20 pm20 cd20 ct20 : Value}
    (a20 : PySem.W.nsIn K mainGlobals "kept_bits" = some (some (.ref f20))) (l20 : K.lookup f20 = some ⟨oc20, od20, .func (PySem.W.fnOf "kept_bits" "kept_bits" (defArgs s_kept_bits) (defBody s_kept_bits) (defScope s_kept_bits) .none kV20 dc20 pm20 an20 cd20 ct20), sl20⟩) (c20 : PySem.W.codeIn K cd20 "kept_bits" = true) (k20 : PySem.W.keepIn K (.ref f20) = true)
    {f21 : Addr} {od21 an21 : Option Addr} {sl21 : Array (Option Value)} {oc21 kV21 dc21 pm21 cd21 ct21 : Value}
    (a21 : PySem.W.nsIn K mainGlobals "state_of_bits" = some (some (.ref f21))) (l21 : K.lookup f21 = some ⟨oc21, od21, .func (PySem.W.fnOf "state_of_bits" "state_of_bits" (defArgs s_state_of_bits) (defBody s_state_of_bits) (defScope s_state_of_bits) .none kV21 dc21 pm21 an21 cd21 ct21), sl21⟩) (c21 : PySem.W.codeIn K cd21 "state_of_bits" = true) (k21 : PySem.W.keepIn K (.ref f21) = true)
    {f22 : Addr} {od22 an22 : Option Addr} {sl22 : Array (Option Value)} {oc22 kV22 dc22 pm22 cd22 ct22 : Value}
    (a22 : PySem.W.nsIn K mainGlobals "can_meet" = some (some (.ref f22))) (l22 : K.lookup f22 = some ⟨oc22, od22, .func (PySem.W.fnOf "can_meet" "can_meet" (defArgs s_can_meet) (defBody s_can_meet) (defScope s_can_meet) .none kV22 dc22 pm22 an22 cd22 ct22), sl22⟩) (c22 : PySem.W.codeIn K cd22 "can_meet" = true) (k22 : PySem.W.keepIn K (.ref f22) = true)
    {f23 : Addr} {od23 an23 : Option Addr} {sl23 : Array (Option Value)} {oc23 kV23 dc23 pm23 cd23 ct23 : Value}
    (a23 : PySem.W.nsIn K mainGlobals "can_follow" = some (some (.ref f23))) (l23 : K.lookup f23 = some ⟨oc23, od23, .func (PySem.W.fnOf "can_follow" "can_follow" (defArgs s_can_follow) (defBody s_can_follow) (defScope s_can_follow) .none kV23 dc23 pm23 an23 cd23 ct23), sl23⟩) (c23 : PySem.W.codeIn K cd23 "can_follow" = true) (k23 : PySem.W.keepIn K (.ref f23) = true)
    {f24 : Addr} {od24 an24 : Option Addr} {sl24 : Array (Option Value)} {oc24 kV24 dc24 pm24 cd24 ct24 : Value}
    (a24 : PySem.W.nsIn K mainGlobals "bits_along" = some (some (.ref f24))) (l24 : K.lookup f24 = some ⟨oc24, od24, .func (PySem.W.fnOf "bits_along" "bits_along" (defArgs s_bits_along) (defBody s_bits_along) (defScope s_bits_along) .none kV24 dc24 pm24 an24 cd24 ct24), sl24⟩) (c24 : PySem.W.codeIn K cd24 "bits_along" = true) (k24 : PySem.W.keepIn K (.ref f24) = true)
    {f25 : Addr} {od25 an25 : Option Addr} {sl25 : Array (Option Value)} {oc25 kV25 dc25 pm25 cd25 ct25 : Value}
    (a25 : PySem.W.nsIn K mainGlobals "_law_cell" = some (some (.ref f25))) (l25 : K.lookup f25 = some ⟨oc25, od25, .func (PySem.W.fnOf "_law_cell" "_law_cell" (defArgs s_l_cell) (defBody s_l_cell) (defScope s_l_cell) .none kV25 dc25 pm25 an25 cd25 ct25), sl25⟩) (c25 : PySem.W.codeIn K cd25 "_law_cell" = true) (k25 : PySem.W.keepIn K (.ref f25) = true)
    {f26 : Addr} {od26 an26 : Option Addr} {sl26 : Array (Option Value)} {oc26 kV26 dc26 pm26 cd26 ct26 : Value}
    (a26 : PySem.W.nsIn K mainGlobals "_law_hash" = some (some (.ref f26))) (l26 : K.lookup f26 = some ⟨oc26, od26, .func (PySem.W.fnOf "_law_hash" "_law_hash" (defArgs s_l_hash) (defBody s_l_hash) (defScope s_l_hash) .none kV26 dc26 pm26 an26 cd26 ct26), sl26⟩) (c26 : PySem.W.codeIn K cd26 "_law_hash" = true) (k26 : PySem.W.keepIn K (.ref f26) = true)
    {f27 : Addr} {od27 an27 : Option Addr} {sl27 : Array (Option Value)} {oc27 kV27 dc27 pm27 cd27 ct27 : Value}
    (a27 : PySem.W.nsIn K mainGlobals "_law_generator" = some (some (.ref f27))) (l27 : K.lookup f27 = some ⟨oc27, od27, .func (PySem.W.fnOf "_law_generator" "_law_generator" (defArgs s_l_generator) (defBody s_l_generator) (defScope s_l_generator) .none kV27 dc27 pm27 an27 cd27 ct27), sl27⟩) (c27 : PySem.W.codeIn K cd27 "_law_generator" = true) (k27 : PySem.W.keepIn K (.ref f27) = true)
    {f28 : Addr} {od28 an28 : Option Addr} {sl28 : Array (Option Value)} {oc28 kV28 dc28 pm28 cd28 ct28 : Value}
    (a28 : PySem.W.nsIn K mainGlobals "_law_random" = some (some (.ref f28))) (l28 : K.lookup f28 = some ⟨oc28, od28, .func (PySem.W.fnOf "_law_random" "_law_random" (defArgs s_l_random) (defBody s_l_random) (defScope s_l_random) .none kV28 dc28 pm28 an28 cd28 ct28), sl28⟩) (c28 : PySem.W.codeIn K cd28 "_law_random" = true) (k28 : PySem.W.keepIn K (.ref f28) = true)
    {f29 : Addr} {od29 an29 : Option Addr} {sl29 : Array (Option Value)} {oc29 kV29 dc29 pm29 cd29 ct29 : Value}
    (a29 : PySem.W.nsIn K mainGlobals "_law_shuffled" = some (some (.ref f29))) (l29 : K.lookup f29 = some ⟨oc29, od29, .func (PySem.W.fnOf "_law_shuffled" "_law_shuffled" (defArgs s_l_shuffled) (defBody s_l_shuffled) (defScope s_l_shuffled) .none kV29 dc29 pm29 an29 cd29 ct29), sl29⟩) (c29 : PySem.W.codeIn K cd29 "_law_shuffled" = true) (k29 : PySem.W.keepIn K (.ref f29) = true)
    {f30 : Addr} {od30 an30 : Option Addr} {sl30 : Array (Option Value)} {oc30 kV30 dc30 pm30 cd30 ct30 : Value}
    (a30 : PySem.W.nsIn K mainGlobals "_law_random_house" = some (some (.ref f30))) (l30 : K.lookup f30 = some ⟨oc30, od30, .func (PySem.W.fnOf "_law_random_house" "_law_random_house" (defArgs s_l_random_house) (defBody s_l_random_house) (defScope s_l_random_house) .none kV30 dc30 pm30 an30 cd30 ct30), sl30⟩) (c30 : PySem.W.codeIn K cd30 "_law_random_house" = true) (k30 : PySem.W.keepIn K (.ref f30) = true)
    {f31 : Addr} {od31 an31 : Option Addr} {sl31 : Array (Option Value)} {oc31 kV31 dc31 pm31 cd31 ct31 : Value}
    (a31 : PySem.W.nsIn K mainGlobals "_law_random_state" = some (some (.ref f31))) (l31 : K.lookup f31 = some ⟨oc31, od31, .func (PySem.W.fnOf "_law_random_state" "_law_random_state" (defArgs s_l_random_state) (defBody s_l_random_state) (defScope s_l_random_state) .none kV31 dc31 pm31 an31 cd31 ct31), sl31⟩) (c31 : PySem.W.codeIn K cd31 "_law_random_state" = true) (k31 : PySem.W.keepIn K (.ref f31) = true)
    {f32 : Addr} {od32 an32 : Option Addr} {sl32 : Array (Option Value)} {oc32 kV32 dc32 pm32 cd32 ct32 : Value}
    (a32 : PySem.W.nsIn K mainGlobals "_law_neighbours" = some (some (.ref f32))) (l32 : K.lookup f32 = some ⟨oc32, od32, .func (PySem.W.fnOf "_law_neighbours" "_law_neighbours" (defArgs s_l_neighbours) (defBody s_l_neighbours) (defScope s_l_neighbours) .none kV32 dc32 pm32 an32 cd32 ct32), sl32⟩) (c32 : PySem.W.codeIn K cd32 "_law_neighbours" = true) (k32 : PySem.W.keepIn K (.ref f32) = true)
    {f33 : Addr} {od33 an33 : Option Addr} {sl33 : Array (Option Value)} {oc33 kV33 dc33 pm33 cd33 ct33 : Value}
    (a33 : PySem.W.nsIn K mainGlobals "_law_moved" = some (some (.ref f33))) (l33 : K.lookup f33 = some ⟨oc33, od33, .func (PySem.W.fnOf "_law_moved" "_law_moved" (defArgs s_l_moved) (defBody s_l_moved) (defScope s_l_moved) .none kV33 dc33 pm33 an33 cd33 ct33), sl33⟩) (c33 : PySem.W.codeIn K cd33 "_law_moved" = true) (k33 : PySem.W.keepIn K (.ref f33) = true)
    {f34 : Addr} {od34 an34 : Option Addr} {sl34 : Array (Option Value)} {oc34 kV34 dc34 pm34 cd34 ct34 : Value}
    (a34 : PySem.W.nsIn K mainGlobals "_law_steps" = some (some (.ref f34))) (l34 : K.lookup f34 = some ⟨oc34, od34, .func (PySem.W.fnOf "_law_steps" "_law_steps" (defArgs s_l_steps) (defBody s_l_steps) (defScope s_l_steps) .none kV34 dc34 pm34 an34 cd34 ct34), sl34⟩) (c34 : PySem.W.codeIn K cd34 "_law_steps" = true) (k34 : PySem.W.keepIn K (.ref f34) = true)
    {f35 : Addr} {od35 an35 : Option Addr} {sl35 : Array (Option Value)} {oc35 kV35 dc35 pm35 cd35 ct35 : Value}
    (a35 : PySem.W.nsIn K mainGlobals "_law_random_steps" = some (some (.ref f35))) (l35 : K.lookup f35 = some ⟨oc35, od35, .func (PySem.W.fnOf "_law_random_steps" "_law_random_steps" (defArgs s_l_random_steps) (defBody s_l_random_steps) (defScope s_l_random_steps) .none kV35 dc35 pm35 an35 cd35 ct35), sl35⟩) (c35 : PySem.W.codeIn K cd35 "_law_random_steps" = true) (k35 : PySem.W.keepIn K (.ref f35) = true)
    {f36 : Addr} {od36 an36 : Option Addr} {sl36 : Array (Option Value)} {oc36 kV36 dc36 pm36 cd36 ct36 : Value}
    (a36 : PySem.W.nsIn K mainGlobals "_law_way" = some (some (.ref f36))) (l36 : K.lookup f36 = some ⟨oc36, od36, .func (PySem.W.fnOf "_law_way" "_law_way" (defArgs s_l_way) (defBody s_l_way) (defScope s_l_way) .none kV36 dc36 pm36 an36 cd36 ct36), sl36⟩) (c36 : PySem.W.codeIn K cd36 "_law_way" = true) (k36 : PySem.W.keepIn K (.ref f36) = true)
    {f37 : Addr} {od37 an37 : Option Addr} {sl37 : Array (Option Value)} {oc37 kV37 dc37 pm37 cd37 ct37 : Value}
    (a37 : PySem.W.nsIn K mainGlobals "_law_bits" = some (some (.ref f37))) (l37 : K.lookup f37 = some ⟨oc37, od37, .func (PySem.W.fnOf "_law_bits" "_law_bits" (defArgs s_l_bits) (defBody s_l_bits) (defScope s_l_bits) .none kV37 dc37 pm37 an37 cd37 ct37), sl37⟩) (c37 : PySem.W.codeIn K cd37 "_law_bits" = true) (k37 : PySem.W.keepIn K (.ref f37) = true)
    {f38 : Addr} {od38 an38 : Option Addr} {sl38 : Array (Option Value)} {oc38 kV38 dc38 pm38 cd38 ct38 : Value}
    (a38 : PySem.W.nsIn K mainGlobals "_law_region" = some (some (.ref f38))) (l38 : K.lookup f38 = some ⟨oc38, od38, .func (PySem.W.fnOf "_law_region" "_law_region" (defArgs s_l_region) (defBody s_l_region) (defScope s_l_region) .none kV38 dc38 pm38 an38 cd38 ct38), sl38⟩) (c38 : PySem.W.codeIn K cd38 "_law_region" = true) (k38 : PySem.W.keepIn K (.ref f38) = true)
    {f39 : Addr} {od39 an39 : Option Addr} {sl39 : Array (Option Value)} {oc39 kV39 dc39 pm39 cd39 ct39 : Value}
    (a39 : PySem.W.nsIn K mainGlobals "_law_rooms_right" = some (some (.ref f39))) (l39 : K.lookup f39 = some ⟨oc39, od39, .func (PySem.W.fnOf "_law_rooms_right" "_law_rooms_right" (defArgs s_l_rooms_right) (defBody s_l_rooms_right) (defScope s_l_rooms_right) .none kV39 dc39 pm39 an39 cd39 ct39), sl39⟩) (c39 : PySem.W.codeIn K cd39 "_law_rooms_right" = true) (k39 : PySem.W.keepIn K (.ref f39) = true)
    {f40 : Addr} {od40 an40 : Option Addr} {sl40 : Array (Option Value)} {oc40 kV40 dc40 pm40 cd40 ct40 : Value}
    (a40 : PySem.W.nsIn K mainGlobals "law" = some (some (.ref f40))) (l40 : K.lookup f40 = some ⟨oc40, od40, .func (PySem.W.fnOf "law" "law" (defArgs s_law) (defBody s_law) (defScope s_law) .none kV40 dc40 pm40 an40 cd40 ct40), sl40⟩) (c40 : PySem.W.codeIn K cd40 "law" = true) (k40 : PySem.W.keepIn K (.ref f40) = true)
    (z0 : PySem.W.nsIn K mainGlobals "len" = some none)
    (z1 : PySem.W.nsIn K mainGlobals "isinstance" = some none)
    (z2 : PySem.W.nsIn K mainGlobals "enumerate" = some none)
    (z3 : PySem.W.nsIn K mainGlobals "range" = some none)
    (z4 : PySem.W.nsIn K mainGlobals "list" = some none)
    (z5 : PySem.W.nsIn K mainGlobals "set" = some none)
    (z6 : PySem.W.nsIn K mainGlobals "sorted" = some none)
    (z7 : PySem.W.nsIn K mainGlobals "max" = some none)
    (z8 : PySem.W.nsIn K mainGlobals "min" = some none)
    (z9 : PySem.W.nsIn K mainGlobals "tuple" = some none)
    (z10 : PySem.W.nsIn K mainGlobals "int" = some none)
    (z11 : PySem.W.nsIn K mainGlobals "bool" = some none)
    (z12 : PySem.W.nsIn K mainGlobals "all" = some none)
    : ∃ fd : FuncData, (∀ (s : Shared) (v : Value), BindsTo s fd ⟨[v], []⟩ [("_law_script", v)]) ∧ ∀ base : Heap, K.In base → base.Ns mainGlobals mg → FnOk l.prog w K mg base CX0 10 fa fd ["_law_script"] (spLaw K) := by
  have e := hfa.symm.trans (PySem.W.mg_of X G a40)
  cases e
  have T : Bl mg := ⟨PySem.W.mg_none_of X G z0, PySem.W.mg_none_of X G z1, PySem.W.mg_none_of X G z2, PySem.W.mg_none_of X G z3, PySem.W.mg_none_of X G z4, PySem.W.mg_none_of X G z5, PySem.W.mg_none_of X G z6, PySem.W.mg_none_of X G z7, PySem.W.mg_none_of X G z8, PySem.W.mg_none_of X G z9, PySem.W.mg_none_of X G z10, PySem.W.mg_none_of X G z11, PySem.W.mg_none_of X G z12⟩
  have D_is_whole : Def K mg "is_whole" s_is_whole := def_mk X G a0 l0 c0 k0
  have D_is_index : Def K mg "is_index" s_is_index := def_mk X G a1 l1 c1 k1
  have D_is_door : Def K mg "is_door" s_is_door := def_mk X G a2 l2 c2 k2
  have D_check_house : Def K mg "check_house" s_check_house := def_mk X G a3 l3 c3 k3
  have D_first_ring : Def K mg "first_ring" s_first_ring := def_mk X G a4 l4 c4 k4
  have D_find_root : Def K mg "find_root" s_find_root := def_mk X G a5 l5 c5 k5
  have D_need_house : Def K mg "need_house" s_need_house := def_mk X G a6 l6 c6 k6
  have D_need_room : Def K mg "need_room" s_need_room := def_mk X G a7 l7 c7 k7
  have D_exits_of : Def K mg "exits_of" s_exits_of := def_mk X G a8 l8 c8 k8
  have D_ways_from : Def K mg "ways_from" s_ways_from := def_mk X G a9 l9 c9 k9
  have D_steps_along : Def K mg "steps_along" s_steps_along := def_mk X G a10 l10 c10 k10
  have D_steps_between : Def K mg "steps_between" s_steps_between := def_mk X G a11 l11 c11 k11
  have D_doors_between : Def K mg "doors_between" s_doors_between := def_mk X G a12 l12 c12 k12
  have D_has_state_shape : Def K mg "has_state_shape" s_has_state_shape := def_mk X G a13 l13 c13 k13
  have D_check_state : Def K mg "check_state" s_check_state := def_mk X G a14 l14 c14 k14
  have D_need_state : Def K mg "need_state" s_need_state := def_mk X G a15 l15 c15 k15
  have D_need_pair : Def K mg "need_pair" s_need_pair := def_mk X G a16 l16 c16 k16
  have D_need_bits : Def K mg "need_bits" s_need_bits := def_mk X G a17 l17 c17 k17
  have D_need_bits_and_rooms : Def K mg "need_bits_and_rooms" s_need_bits_and_rooms := def_mk X G a18 l18 c18 k18
  have D_turned_on_path : Def K mg "turned_on_path" s_turned_on_path := def_mk X G a19 l19 c19 k19
  have D_kept_bits : Def K mg "kept_bits" s_kept_bits := def_mk X G a20 l20 c20 k20
  have D_state_of_bits : Def K mg "state_of_bits" s_state_of_bits := def_mk X G a21 l21 c21 k21
  have D_can_meet : Def K mg "can_meet" s_can_meet := def_mk X G a22 l22 c22 k22
  have D_can_follow : Def K mg "can_follow" s_can_follow := def_mk X G a23 l23 c23 k23
  have D_bits_along : Def K mg "bits_along" s_bits_along := def_mk X G a24 l24 c24 k24
  have D_l_cell : Def K mg "_law_cell" s_l_cell := def_mk X G a25 l25 c25 k25
  have D_l_hash : Def K mg "_law_hash" s_l_hash := def_mk X G a26 l26 c26 k26
  have D_l_generator : Def K mg "_law_generator" s_l_generator := def_mk X G a27 l27 c27 k27
  have D_l_random : Def K mg "_law_random" s_l_random := def_mk X G a28 l28 c28 k28
  have D_l_shuffled : Def K mg "_law_shuffled" s_l_shuffled := def_mk X G a29 l29 c29 k29
  have D_l_random_house : Def K mg "_law_random_house" s_l_random_house := def_mk X G a30 l30 c30 k30
  have D_l_random_state : Def K mg "_law_random_state" s_l_random_state := def_mk X G a31 l31 c31 k31
  have D_l_neighbours : Def K mg "_law_neighbours" s_l_neighbours := def_mk X G a32 l32 c32 k32
  have D_l_moved : Def K mg "_law_moved" s_l_moved := def_mk X G a33 l33 c33 k33
  have D_l_steps : Def K mg "_law_steps" s_l_steps := def_mk X G a34 l34 c34 k34
  have D_l_random_steps : Def K mg "_law_random_steps" s_l_random_steps := def_mk X G a35 l35 c35 k35
  have D_l_way : Def K mg "_law_way" s_l_way := def_mk X G a36 l36 c36 k36
  have D_l_bits : Def K mg "_law_bits" s_l_bits := def_mk X G a37 l37 c37 k37
  have D_l_region : Def K mg "_law_region" s_l_region := def_mk X G a38 l38 c38 k38
  have D_l_rooms_right : Def K mg "_law_rooms_right" s_l_rooms_right := def_mk X G a39 l39 c39 k39
  refine ⟨PySem.W.fnOf "law" "law" (defArgs s_law) (defBody s_law) (defScope s_law) .none kV40 dc40 pm40 an40 cd40 ct40, fun s v => .of_eq rfl, fun base _ _ => ?_⟩
  have C_is_whole : Cal l.prog w K mg base "is_whole" ["value"] 1 spWhole := ok_is_whole T D_is_whole
  have C_is_index : Cal l.prog w K mg base "is_index" ["value", "count"] 2 spIndex := ok_is_index T D_is_index C_is_whole
  have C_is_door : Cal l.prog w K mg base "is_door" ["value", "count"] 3 (spDoor K) := ok_is_door T D_is_door C_is_index
  have C_find_root : Cal l.prog w K mg base "find_root" ["links", "room"] 1 spFind := ok_find_root T D_find_root
  have C_need_room : Cal l.prog w K mg base "need_room" ["house", "room"] 3 (spNeedRoom K) := ok_need_room T D_need_room C_is_index
  have C_exits_of : Cal l.prog w K mg base "exits_of" ["house"] 1 (spExits K) := ok_exits_of T D_exits_of
  have C_ways_from : Cal l.prog w K mg base "ways_from" ["house", "room", "shut"] 2 (spWays K) := ok_ways_from T D_ways_from C_exits_of
  have C_steps_along : Cal l.prog w K mg base "steps_along" ["ways", "room"] 1 (spSteps K) := ok_steps_along T D_steps_along
  have C_steps_between : Cal l.prog w K mg base "steps_between" ["house", "a", "b"] 3 (spStepsB K) := ok_steps_between T D_steps_between C_steps_along C_ways_from
  have C_doors_between : Cal l.prog w K mg base "doors_between" ["house", "a", "b"] 4 (spPath K) := ok_doors_between T D_doors_between C_steps_between
  have C_has_state_shape : Cal l.prog w K mg base "has_state_shape" ["house", "value"] 1 (spShape K) := ok_has_state_shape T D_has_state_shape
  have C_need_pair : Cal l.prog w K mg base "need_pair" ["state"] 1 (spNeedPair K) := ok_need_pair T D_need_pair
  have C_need_bits : Cal l.prog w K mg base "need_bits" ["house", "bits"] 3 (spNeedBits K) := ok_need_bits T D_need_bits C_is_index
  have C_turned_on_path : Cal l.prog w K mg base "turned_on_path" ["house", "persons", "a", "b"] 5 (spTurn K) := ok_turned_on_path T D_turned_on_path C_doors_between
  have C_bits_along : Cal l.prog w K mg base "bits_along" ["house", "bits", "a", "b"] 5 (spAlong K) := ok_bits_along T D_bits_along C_doors_between
  have C_l_cell : Cal l.prog w K mg base "_law_cell" ["_law_script", "_law_index"] 1 (spCell K) := ok_cell T D_l_cell
  have C_l_hash : Cal l.prog w K mg base "_law_hash" ["_law_seed", "_law_index"] 1 spHash := ok_hash T D_l_hash
  have C_l_generator : Cal l.prog w K mg base "_law_generator" ["_law_script", "_law_index"] 2 (spGen K) := ok_generator T D_l_generator C_l_cell
  have C_l_random : Cal l.prog w K mg base "_law_random" ["_law_generator_here", "_law_bound"] 2 spRand := ok_random T D_l_random C_l_hash
  have C_l_shuffled : Cal l.prog w K mg base "_law_shuffled" ["_law_generator_here", "_law_items"] 3 (spShuf K) := ok_shuffled T D_l_shuffled C_l_random
  have C_l_random_house : Cal l.prog w K mg base "_law_random_house" ["_law_generator_here", "_law_most"] 4 (spHouse K) := ok_random_house T D_l_random_house C_l_random C_l_shuffled
  have C_l_random_state : Cal l.prog w K mg base "_law_random_state" ["_law_generator_here", "_law_doors", "_law_people"] 3 (spRState K) := ok_random_state T D_l_random_state C_l_random
  have C_l_neighbours : Cal l.prog w K mg base "_law_neighbours" ["_law_doors", "_law_place"] 1 (spNeigh K) := ok_neighbours T D_l_neighbours
  have C_l_moved : Cal l.prog w K mg base "_law_moved" ["_law_doors", "_law_position", "_law_step"] 2 (spMoved K) := ok_moved T D_l_moved C_l_neighbours
  have C_l_steps : Cal l.prog w K mg base "_law_steps" ["_law_doors", "_law_position"] 2 (spPoss K) := ok_steps T D_l_steps C_l_neighbours
  have C_l_random_steps : Cal l.prog w K mg base "_law_random_steps" ["_law_generator_here", "_law_doors", "_law_position", "_law_most"] 3 (spRSteps K) := ok_random_steps T D_l_random_steps C_l_random C_l_steps C_l_moved
  have C_l_way : Cal l.prog w K mg base "_law_way" ["_law_doors", "_law_start", "_law_end"] 2 (spPath K) := ok_way T D_l_way C_l_neighbours
  have C_l_bits : Cal l.prog w K mg base "_law_bits" ["_law_doors", "_law_position"] 3 (spKept K) := ok_bits T D_l_bits C_l_way
  have C_l_region : Cal l.prog w K mg base "_law_region" ["_law_doors", "_law_position", "_law_person"] 2 (spRegF K) := ok_region T D_l_region C_l_neighbours
  have C_first_ring : Cal l.prog w K mg base "first_ring" ["doors"] 2 (spRing K) := ok_first_ring T D_first_ring C_find_root
  have C_check_house : Cal l.prog w K mg base "check_house" ["value"] 4 (spRing K) := ok_check_house T D_check_house C_is_door C_first_ring
  have C_need_house : Cal l.prog w K mg base "need_house" ["house"] 5 (spRing K) := ok_need_house T D_need_house C_check_house
  have C_check_state : Cal l.prog w K mg base "check_state" ["house", "value"] 6 (spSt K) := ok_check_state T D_check_state C_need_house C_has_state_shape C_is_index
  have C_need_state : Cal l.prog w K mg base "need_state" ["house", "state"] 7 (spSt K) := ok_need_state T D_need_state C_check_state
  have C_need_bits_and_rooms : Cal l.prog w K mg base "need_bits_and_rooms" ["house", "bits", "a", "b"] 6 (spNeedBR K) := ok_need_bits_and_rooms T D_need_bits_and_rooms C_need_house C_need_bits C_need_room
  have C_kept_bits : Cal l.prog w K mg base "kept_bits" ["house", "state"] 8 (spKept K) := ok_kept_bits T D_kept_bits C_need_state C_need_pair C_turned_on_path
  have C_state_of_bits : Cal l.prog w K mg base "state_of_bits" ["house", "bits", "a", "b"] 7 (spSOB K) := ok_state_of_bits T D_state_of_bits C_need_bits_and_rooms C_turned_on_path
  have C_can_meet : Cal l.prog w K mg base "can_meet" ["house", "bits", "a", "b"] 7 (spCan K (· ≤ ·)) := ok_can_meet T D_can_meet C_need_bits_and_rooms C_bits_along
  have C_can_follow : Cal l.prog w K mg base "can_follow" ["house", "bits", "a", "b"] 7 (spCan K (· ≥ ·)) := ok_can_follow T D_can_follow C_need_bits_and_rooms C_bits_along
  have C_l_rooms_right : Cal l.prog w K mg base "_law_rooms_right" ["_law_doors", "_law_bits_here", "_law_one", "_law_other"] 9 (spRR K) := ok_rooms_right T D_l_rooms_right C_state_of_bits C_l_bits C_kept_bits C_l_way C_l_region C_can_meet C_can_follow
  exact ok_law T (fun_mk (st := s_law) l40 c40 k40) C_l_generator C_l_random_house C_l_random C_l_random_state C_l_random_steps C_l_bits C_l_moved C_kept_bits C_state_of_bits C_l_rooms_right
end K5

open PySem PySem.W PyProof.Rows
set_option maxHeartbeats 0 in
theorem PySem.Challenge.cw_lastthrough_k40_kept_bits_holds : PySem.Challenge.rw_lastthrough_k40_kept_bits.Holds := by
  w_on; o_law; k_head; (case hw => w_witness2)
  k_fill
  refine L2.walk_of (l := PySem.Challenge.rw_lastthrough_k40_kept_bits) (n := 63) (k := 10) (x := "_law_script") (CX := fun _ => L2.CX0) (sp := fun w => K5.spLaw _) rfl (by decide) rfl ⟨rfl, by decide, by decide⟩ (fun w h Y => PySem.W.kIn_of Y) ?F (fun _ _ a ns hl _ hS => ⟨a, ns, rfl, hS, hl, fun _ => rfl⟩) (fun _ _ _ _ _ h => h)
  case F =>
    intro w mg fa h KX G hmg
    refine' K5.all_mk KX G hmg ?a0 ?l0 ?c0 ?k0 ?a1 ?l1 ?c1 ?k1 ?a2 ?l2 ?c2 ?k2 ?a3 ?l3 ?c3 ?k3 ?a4 ?l4 ?c4 ?k4 ?a5 ?l5 ?c5 ?k5 ?a6 ?l6 ?c6 ?k6 ?a7 ?l7 ?c7 ?k7 ?a8 ?l8 ?c8 ?k8 ?a9 ?l9 ?c9 ?k9 ?a10 ?l10 ?c10 ?k10 ?a11 ?l11 ?c11 ?k11 ?a12 ?l12 ?c12 ?k12 ?a13 ?l13 ?c13 ?k13 ?a14 ?l14 ?c14 ?k14 ?a15 ?l15 ?c15 ?k15 ?a16 ?l16 ?c16 ?k16 ?a17 ?l17 ?c17 ?k17 ?a18 ?l18 ?c18 ?k18 ?a19 ?l19 ?c19 ?k19 ?a20 ?l20 ?c20 ?k20 ?a21 ?l21 ?c21 ?k21 ?a22 ?l22 ?c22 ?k22 ?a23 ?l23 ?c23 ?k23 ?a24 ?l24 ?c24 ?k24 ?a25 ?l25 ?c25 ?k25 ?a26 ?l26 ?c26 ?k26 ?a27 ?l27 ?c27 ?k27 ?a28 ?l28 ?c28 ?k28 ?a29 ?l29 ?c29 ?k29 ?a30 ?l30 ?c30 ?k30 ?a31 ?l31 ?c31 ?k31 ?a32 ?l32 ?c32 ?k32 ?a33 ?l33 ?c33 ?k33 ?a34 ?l34 ?c34 ?k34 ?a35 ?l35 ?c35 ?k35 ?a36 ?l36 ?c36 ?k36 ?a37 ?l37 ?c37 ?k37 ?a38 ?l38 ?c38 ?k38 ?a39 ?l39 ?c39 ?k39 ?a40 ?l40 ?c40 ?k40 ?z0 ?z1 ?z2 ?z3 ?z4 ?z5 ?z6 ?z7 ?z8 ?z9 ?z10 ?z11 ?z12
    (case a0 => k_is)
    (case l0 => k_is)
    (case c0 => k_is)
    (case k0 => k_is)
    (case a1 => k_is)
    (case l1 => k_is)
    (case c1 => k_is)
    (case k1 => k_is)
    (case a2 => k_is)
    (case l2 => k_is)
    (case c2 => k_is)
    (case k2 => k_is)
    (case a3 => k_is)
    (case l3 => k_is)
    (case c3 => k_is)
    (case k3 => k_is)
    (case a4 => k_is)
    (case l4 => k_is)
    (case c4 => k_is)
    (case k4 => k_is)
    (case a5 => k_is)
    (case l5 => k_is)
    (case c5 => k_is)
    (case k5 => k_is)
    (case a6 => k_is)
    (case l6 => k_is)
    (case c6 => k_is)
    (case k6 => k_is)
    (case a7 => k_is)
    (case l7 => k_is)
    (case c7 => k_is)
    (case k7 => k_is)
    (case a8 => k_is)
    (case l8 => k_is)
    (case c8 => k_is)
    (case k8 => k_is)
    (case a9 => k_is)
    (case l9 => k_is)
    (case c9 => k_is)
    (case k9 => k_is)
    (case a10 => k_is)
    (case l10 => k_is)
    (case c10 => k_is)
    (case k10 => k_is)
    (case a11 => k_is)
    (case l11 => k_is)
    (case c11 => k_is)
    (case k11 => k_is)
    (case a12 => k_is)
    (case l12 => k_is)
    (case c12 => k_is)
    (case k12 => k_is)
    (case a13 => k_is)
    (case l13 => k_is)
    (case c13 => k_is)
    (case k13 => k_is)
    (case a14 => k_is)
    (case l14 => k_is)
    (case c14 => k_is)
    (case k14 => k_is)
    (case a15 => k_is)
    (case l15 => k_is)
    (case c15 => k_is)
    (case k15 => k_is)
    (case a16 => k_is)
    (case l16 => k_is)
    (case c16 => k_is)
    (case k16 => k_is)
    (case a17 => k_is)
    (case l17 => k_is)
    (case c17 => k_is)
    (case k17 => k_is)
    (case a18 => k_is)
    (case l18 => k_is)
    (case c18 => k_is)
    (case k18 => k_is)
    (case a19 => k_is)
    (case l19 => k_is)
    (case c19 => k_is)
    (case k19 => k_is)
    (case a20 => k_is)
    (case l20 => k_is)
    (case c20 => k_is)
    (case k20 => k_is)
    (case a21 => k_is)
    (case l21 => k_is)
    (case c21 => k_is)
    (case k21 => k_is)
    (case a22 => k_is)
    (case l22 => k_is)
    (case c22 => k_is)
    (case k22 => k_is)
    (case a23 => k_is)
    (case l23 => k_is)
    (case c23 => k_is)
    (case k23 => k_is)
    (case a24 => k_is)
    (case l24 => k_is)
    (case c24 => k_is)
    (case k24 => k_is)
    (case a25 => k_is)
    (case l25 => k_is)
    (case c25 => k_is)
    (case k25 => k_is)
    (case a26 => k_is)
    (case l26 => k_is)
    (case c26 => k_is)
    (case k26 => k_is)
    (case a27 => k_is)
    (case l27 => k_is)
    (case c27 => k_is)
    (case k27 => k_is)
    (case a28 => k_is)
    (case l28 => k_is)
    (case c28 => k_is)
    (case k28 => k_is)
    (case a29 => k_is)
    (case l29 => k_is)
    (case c29 => k_is)
    (case k29 => k_is)
    (case a30 => k_is)
    (case l30 => k_is)
    (case c30 => k_is)
    (case k30 => k_is)
    (case a31 => k_is)
    (case l31 => k_is)
    (case c31 => k_is)
    (case k31 => k_is)
    (case a32 => k_is)
    (case l32 => k_is)
    (case c32 => k_is)
    (case k32 => k_is)
    (case a33 => k_is)
    (case l33 => k_is)
    (case c33 => k_is)
    (case k33 => k_is)
    (case a34 => k_is)
    (case l34 => k_is)
    (case c34 => k_is)
    (case k34 => k_is)
    (case a35 => k_is)
    (case l35 => k_is)
    (case c35 => k_is)
    (case k35 => k_is)
    (case a36 => k_is)
    (case l36 => k_is)
    (case c36 => k_is)
    (case k36 => k_is)
    (case a37 => k_is)
    (case l37 => k_is)
    (case c37 => k_is)
    (case k37 => k_is)
    (case a38 => k_is)
    (case l38 => k_is)
    (case c38 => k_is)
    (case k38 => k_is)
    (case a39 => k_is)
    (case l39 => k_is)
    (case c39 => k_is)
    (case k39 => k_is)
    (case a40 => k_is)
    (case l40 => k_is)
    (case c40 => k_is)
    (case k40 => k_is)
    (case z0 => k_is)
    (case z1 => k_is)
    (case z2 => k_is)
    (case z3 => k_is)
    (case z4 => k_is)
    (case z5 => k_is)
    (case z6 => k_is)
    (case z7 => k_is)
    (case z8 => k_is)
    (case z9 => k_is)
    (case z10 => k_is)
    (case z11 => k_is)
    (case z12 => k_is)

