/- Which places are the same: forests of parents, tables of terms, what is least, in plain words. -/
import Derived.Test.YtanlmfcllebopaaProg
namespace Go.Proofs.Ytanlmfcllebopaa

/-- a forest of parents: p i is never above i -/
def Tops (p : Nat → Nat) : Prop := ∀ i, p i ≤ i
/-- the top of i's way up -/
def root (p : Nat → Nat) (i : Nat) : Nat := if _h : p i < i then root p (p i) else i
  termination_by i
theorem root_up {p : Nat → Nat} {i : Nat} (h : p i < i) : root p i = root p (p i) := by rw [root, dif_pos h]
theorem root_top {p : Nat → Nat} {i : Nat} (h : p i = i) : root p i = i := by rw [root, dif_neg (by omega)]
theorem root_step {p : Nat → Nat} (hp : Tops p) (i : Nat) : root p (p i) = root p i := by
  by_cases h : p i < i
  · exact (root_up h).symm
  · have : p i = i := by have := hp i; omega
    rw [this]
theorem root_le {p : Nat → Nat} (hp : Tops p) (i : Nat) : root p i ≤ i := by
  induction i using Nat.strongRecOn with
  | ind i ih =>
    by_cases h : p i < i
    · rw [root_up h]; exact Nat.le_trans (ih _ h) (Nat.le_of_lt h)
    · rw [root_top (by have := hp i; omega)]; exact Nat.le_refl _
theorem root_fix {p : Nat → Nat} (hp : Tops p) (i : Nat) : p (root p i) = root p i := by
  induction i using Nat.strongRecOn with
  | ind i ih =>
    by_cases h : p i < i
    · rw [root_up h]; exact ih _ h
    · have e : p i = i := by have := hp i; omega
      rw [root_top e]; exact e
theorem root_idem {p : Nat → Nat} (hp : Tops p) (i : Nat) : root p (root p i) = root p i := root_top (root_fix hp i)
def upd (p : Nat → Nat) (x y : Nat) : Nat → Nat := fun i => if i = x then y else p i
theorem upd_same (p : Nat → Nat) (x y : Nat) : upd p x y x = y := by simp [upd]
theorem upd_other (p : Nat → Nat) {x i : Nat} (y : Nat) (h : i ≠ x) : upd p x y i = p i := by simp [upd, h]
theorem Tops.upd {p : Nat → Nat} (hp : Tops p) {x y : Nat} (h : y ≤ x) : Tops (upd p x y) := by
  intro i
  by_cases e : i = x
  · subst e; rw [upd_same]; exact h
  · rw [upd_other _ _ e]; exact hp i
/-- the way up, halved at x, has the same tops -/
theorem root_halve {p : Nat → Nat} (hp : Tops p) (x : Nat) (j : Nat) : root (upd p x (p (p x))) j = root p j := by
  have hq : Tops (upd p x (p (p x))) := hp.upd (Nat.le_trans (hp _) (hp _))
  induction j using Nat.strongRecOn with
  | ind j ih =>
    by_cases e : j = x
    · subst e
      by_cases h : p (p j) < j
      · rw [root_up (by rw [upd_same]; exact h), upd_same, ih _ h, root_step hp, root_step hp]
      · have h1 := hp j
        have h2 := hp (p j)
        have e1 : p (p j) = j := by omega
        have e2 : p j = j := by omega
        rw [root_top (by rw [upd_same]; exact e1), root_top e2]
    · by_cases h : p j < j
      · rw [root_up (by rw [upd_other _ _ e]; exact h), upd_other _ _ e, ih _ h, root_step hp]
      · have e2 : p j = j := by have := hp j; omega
        rw [root_top (by rw [upd_other _ _ e]; exact e2), root_top e2]
def joinR (r : Nat → Nat) (a b : Nat) : Nat → Nat := fun j => if r j = max (r a) (r b) then min (r a) (r b) else r j
/-- a top that is hung under another -/
theorem root_hang {p : Nat → Nat} (hp : Tops p) {x y : Nat} (hx : p x = x) (hy : p y = y) (h : y ≤ x) (j : Nat) : root (upd p x y) j = if root p j = x then y else root p j := by
  by_cases exy : y = x
  · subst exy
    have e : upd p y y = p := by
      funext i
      by_cases e : i = y
      · subst e; rw [upd_same, hx]
      · rw [upd_other _ _ e]
    rw [e]
    by_cases h : root p j = y
    · rw [if_pos h, h]
    · rw [if_neg h]
  have hq : Tops (upd p x y) := hp.upd h
  have ry : root (upd p x y) y = y := root_top (by rw [upd_other _ _ exy, hy])
  induction j using Nat.strongRecOn with
  | ind j ih =>
    by_cases e : j = x
    · subst e
      rw [root_up (by rw [upd_same]; omega), upd_same, ry, root_top hx, if_pos rfl]
    · by_cases h2 : p j < j
      · rw [root_up (by rw [upd_other _ _ e]; exact h2), upd_other _ _ e, ih _ h2, root_step hp]
      · have e2 : p j = j := by have := hp j; omega
        rw [root_top (by rw [upd_other _ _ e]; exact e2), root_top e2, if_neg e]
theorem root_join {p : Nat → Nat} (hp : Tops p) (a b : Nat) : root (upd p (max (root p a) (root p b)) (min (root p a) (root p b))) = joinR (root p) a b := by
  funext j
  have h1 := root_fix hp a
  have h2 := root_fix hp b
  have hx : p (max (root p a) (root p b)) = max (root p a) (root p b) := by
    rcases Nat.le_total (root p a) (root p b) with h | h
    · rw [Nat.max_eq_right h]; exact h2
    · rw [Nat.max_eq_left h]; exact h1
  have hy : p (min (root p a) (root p b)) = min (root p a) (root p b) := by
    rcases Nat.le_total (root p a) (root p b) with h | h
    · rw [Nat.min_eq_left h]; exact h1
    · rw [Nat.min_eq_right h]; exact h2
  rw [root_hang hp hx hy (by omega), joinR]

/-- a term -/
structure Tm where
  op : Int
  k : Int
  a : Int
  b : Int
def zeroTm : Tm := ⟨0, 0, 0, 0⟩
def tm (ts : List Tm) (i : Nat) : Tm := ts.getD i zeroTm
/-- two parts that are the same by E -/
def PE (E : Nat → Nat → Prop) (x y : Int) : Prop := (x = -1 ∧ y = -1) ∨ (0 ≤ x ∧ 0 ≤ y ∧ E x.toNat y.toNat)
/-- what holds all pairs together, and all terms whose parts are together -/
structure Cong (ts : List Tm) (ps : List (Int × Int)) (E : Nat → Nat → Prop) : Prop where
  refl : ∀ i, E i i
  symm : ∀ i j, E i j → E j i
  trans : ∀ i j k, E i j → E j k → E i k
  pair : ∀ q ∈ ps, E q.1.toNat q.2.toNat
  term : ∀ i j, i < ts.length → j < ts.length → (tm ts i).op = (tm ts j).op → (tm ts i).k = (tm ts j).k → PE E (tm ts i).a (tm ts j).a → PE E (tm ts i).b (tm ts j).b → E i j
theorem PE.symm {ts : List Tm} {ps : List (Int × Int)} {E : Nat → Nat → Prop} (h : Cong ts ps E) {x y : Int} (hp : PE E x y) : PE E y x := by
  rcases hp with ⟨h1, h2⟩ | ⟨h1, h2, h3⟩
  · exact .inl ⟨h2, h1⟩
  · exact .inr ⟨h2, h1, h.symm _ _ h3⟩
theorem PE.trans {ts : List Tm} {ps : List (Int × Int)} {E : Nat → Nat → Prop} (h : Cong ts ps E) {x y z : Int} (hp : PE E x y) (hq : PE E y z) : PE E x z := by
  rcases hp with ⟨h1, h2⟩ | ⟨h1, h2, h3⟩ <;> rcases hq with ⟨g1, g2⟩ | ⟨g1, g2, g3⟩
  · exact .inl ⟨h1, g2⟩
  · omega
  · omega
  · exact .inr ⟨h1, g2, h.trans _ _ _ h3 g3⟩
/-- r tells for each place the least of those that are the same -/
structure Best (ts : List Tm) (ps : List (Int × Int)) (r : Nat → Nat) : Prop where
  le : ∀ i, r i ≤ i
  idem : ∀ i, r (r i) = r i
  pair : ∀ q ∈ ps, r q.1.toNat = r q.2.toNat
  term : ∀ i j, i < ts.length → j < ts.length → (tm ts i).op = (tm ts j).op → (tm ts i).k = (tm ts j).k → PE (fun x y => r x = r y) (tm ts i).a (tm ts j).a → PE (fun x y => r x = r y) (tm ts i).b (tm ts j).b → r i = r j
  sound : ∀ E, Cong ts ps E → ∀ i, E i (r i)
theorem Best.cong {ts : List Tm} {ps : List (Int × Int)} {r : Nat → Nat} (h : Best ts ps r) : Cong ts ps (fun x y => r x = r y) :=
  ⟨fun _ => rfl, fun _ _ e => e.symm, fun _ _ _ e f => e.trans f, h.pair, h.term⟩
theorem Best.unique {ts : List Tm} {ps : List (Int × Int)} {r s : Nat → Nat} (h : Best ts ps r) (g : Best ts ps s) (i : Nat) : r i = s i := by
  have h1 : r i = r (s i) := g.sound _ h.cong i
  have h2 : s i = s (r i) := h.sound _ g.cong i
  have h3 := h.le (s i)
  have h4 := g.le (r i)
  omega
/-- a term's key by r -/
def cp (r : Nat → Nat) (x : Int) : Int := if x = -1 then -1 else (r x.toNat : Int)
def ck (r : Nat → Nat) (t : Tm) : Tm := ⟨t.op, t.k, cp r t.a, cp r t.b⟩
/-- a part that may be, of n places -/
def PartOk (n : Nat) (x : Int) : Prop := x = -1 ∨ (0 ≤ x ∧ x < n)
/-- t may stand for the term at pl -/
structure Stands (ts : List Tm) (ps : List (Int × Int)) (t : Tm) (pl : Nat) : Prop where
  lt : pl < ts.length
  a : PartOk ts.length t.a
  b : PartOk ts.length t.b
  op : t.op = (tm ts pl).op
  k : t.k = (tm ts pl).k
  same : ∀ E, Cong ts ps E → PE E t.a (tm ts pl).a ∧ PE E t.b (tm ts pl).b
def Sound (ts : List Tm) (ps : List (Int × Int)) (r : Nat → Nat) : Prop := (∀ i, r i ≤ i) ∧ (∀ i, r (r i) = r i) ∧ ∀ E, Cong ts ps E → ∀ i, E i (r i)
theorem PE_cp {ts : List Tm} {ps : List (Int × Int)} {r : Nat → Nat} (h : Sound ts ps r) {E : Nat → Nat → Prop} (hE : Cong ts ps E) {n : Nat} {x : Int} (hx : PartOk n x) : PE E (cp r x) x := by
  unfold cp
  rcases hx with hx | hx
  · rw [if_pos hx]; exact .inl ⟨rfl, hx⟩
  · rw [if_neg (by omega)]
    exact .inr ⟨by omega, hx.1, by rw [Int.toNat_natCast]; exact hE.symm _ _ (h.2.2 E hE _)⟩
theorem Stands.key {ts : List Tm} {ps : List (Int × Int)} {r : Nat → Nat} (h : Sound ts ps r) {t : Tm} {pl : Nat} (hs : Stands ts ps t pl) : Stands ts ps (ck r t) pl where
  lt := hs.lt
  a := by
    rcases hs.a with e | e
    · exact .inl (by simp [ck, cp, e])
    · have := h.1 t.a.toNat
      exact .inr (by simp only [ck, cp]; rw [if_neg (by omega)]; omega)
  b := by
    rcases hs.b with e | e
    · exact .inl (by simp [ck, cp, e])
    · have := h.1 t.b.toNat
      exact .inr (by simp only [ck, cp]; rw [if_neg (by omega)]; omega)
  op := hs.op
  k := hs.k
  same := fun E hE => ⟨PE.trans hE (PE_cp h hE hs.a) (hs.same E hE).1, PE.trans hE (PE_cp h hE hs.b) (hs.same E hE).2⟩
/-- two places for which one key stands are the same -/
theorem Stands.both {ts : List Tm} {ps : List (Int × Int)} {t : Tm} {x y : Nat} (hx : Stands ts ps t x) (hy : Stands ts ps t y) {E : Nat → Nat → Prop} (hE : Cong ts ps E) : E x y :=
  hE.term x y hx.lt hy.lt (hx.op.symm.trans hy.op) (hx.k.symm.trans hy.k) (PE.trans hE (PE.symm hE (hx.same E hE).1) (hy.same E hE).1) (PE.trans hE (PE.symm hE (hx.same E hE).2) (hy.same E hE).2)
theorem Sound.join {ts : List Tm} {ps : List (Int × Int)} {r : Nat → Nat} (h : Sound ts ps r) {a b : Nat} (hab : ∀ E, Cong ts ps E → E a b) : Sound ts ps (joinR r a b) := by
  obtain ⟨h1, h2, h3⟩ := h
  have hm : r (min (r a) (r b)) = min (r a) (r b) := by
    rcases Nat.le_total (r a) (r b) with h | h
    · rw [Nat.min_eq_left h]; exact h2 a
    · rw [Nat.min_eq_right h]; exact h2 b
  refine ⟨fun i => ?_, fun i => ?_, fun E hE i => ?_⟩
  · have := h1 i
    unfold joinR; split <;> omega
  · unfold joinR
    by_cases e : r i = max (r a) (r b)
    · rw [if_pos e, hm]
      split <;> rfl
    · rw [if_neg e, h2, if_neg e]
  · unfold joinR
    have e1 := h3 E hE i
    by_cases e : r i = max (r a) (r b)
    · rw [if_pos e]
      have ea := h3 E hE a
      have eb := h3 E hE b
      have eab := hab E hE
      rcases Nat.le_total (r a) (r b) with h | h
      · rw [Nat.min_eq_left h]
        rw [Nat.max_eq_right h] at e
        rw [e] at e1
        exact hE.trans _ _ _ e1 (hE.trans _ _ _ (hE.symm _ _ eb) (hE.trans _ _ _ (hE.symm _ _ eab) ea))
      · rw [Nat.min_eq_right h]
        rw [Nat.max_eq_left h] at e
        rw [e] at e1
        exact hE.trans _ _ _ e1 (hE.trans _ _ _ (hE.symm _ _ ea) (hE.trans _ _ _ eab eb))
    · rw [if_neg e]; exact e1
/-- s holds together what r does -/
def Coarser (r s : Nat → Nat) : Prop := ∀ i j, r i = r j → s i = s j
theorem coarser_refl (r : Nat → Nat) : Coarser r r := fun _ _ h => h
theorem Coarser.trans {r s t : Nat → Nat} (h : Coarser r s) (g : Coarser s t) : Coarser r t := fun i j e => g i j (h i j e)
theorem coarser_join (r : Nat → Nat) (a b : Nat) : Coarser r (joinR r a b) := by
  intro i j e
  unfold joinR
  rw [e]
theorem joinR_both (r : Nat → Nat) (a b : Nat) : joinR r a b a = joinR r a b b := by
  unfold joinR
  rcases Nat.le_total (r a) (r b) with h | h
  · rw [Nat.max_eq_right h, Nat.min_eq_left h]
    by_cases e : r a = r b
    · simp [e]
    · simp [e]
  · rw [Nat.max_eq_left h, Nat.min_eq_right h]
    by_cases e : r b = r a
    · simp [e]
    · simp [e]
theorem joinR_same {r : Nat → Nat} {a b : Nat} (h : r a = r b) : joinR r a b = r := by
  funext j
  unfold joinR
  rw [h]
  by_cases e : r j = r b
  · simp [e]
  · simp [e]
theorem cp_coarser {r s : Nat → Nat} (h : Coarser r s) {x y : Int} (e : cp r x = cp r y) : cp s x = cp s y := by
  unfold cp at e ⊢
  by_cases h1 : x = -1 <;> by_cases h2 : y = -1
  · rw [if_pos h1, if_pos h2]
  · rw [if_pos h1, if_neg h2] at e; omega
  · rw [if_neg h1, if_pos h2] at e; omega
  · rw [if_neg h1, if_neg h2] at e ⊢
    have := h _ _ (Int.natCast_inj.1 e)
    rw [this]
theorem ck_coarser {r s : Nat → Nat} (h : Coarser r s) {t u : Tm} (e : ck r t = ck r u) : ck s t = ck s u := by
  simp only [ck, Tm.mk.injEq] at e ⊢
  exact ⟨e.1, e.2.1, cp_coarser h e.2.2.1, cp_coarser h e.2.2.2⟩
theorem cp_idem {r : Nat → Nat} (h : ∀ i, r (r i) = r i) (x : Int) : cp r (cp r x) = cp r x := by
  unfold cp
  by_cases e : x = -1
  · rw [if_pos e, if_pos rfl]
  · rw [if_neg e, if_neg (by omega), Int.toNat_natCast, h]
theorem ck_idem {r : Nat → Nat} (h : ∀ i, r (r i) = r i) (t : Tm) : ck r (ck r t) = ck r t := by
  simp only [ck, cp_idem h]
/-- the table M has an entry for the term t at place i, as far as r tells -/
def Covers (M : Tm → Option Nat) (r : Nat → Nat) (t : Tm) (i : Nat) : Prop := ∃ key pl, M key = some pl ∧ r pl = r i ∧ ck r key = ck r t
theorem Covers.coarser {M : Tm → Option Nat} {r s : Nat → Nat} {t : Tm} {i : Nat} (h : Covers M r t i) (g : Coarser r s) : Covers M s t i := by
  obtain ⟨key, pl, h1, h2, h3⟩ := h
  exact ⟨key, pl, h1, g _ _ h2, ck_coarser g h3⟩
/-- every entry of the table stands for its place -/
def Holds (ts : List Tm) (ps : List (Int × Int)) (M : Tm → Option Nat) : Prop := ∀ key pl, M key = some pl → Stands ts ps key pl
/-- M with one entry more -/
def Puts (M M' : Tm → Option Nat) (key : Tm) (pl : Nat) : Prop := M' key = some pl ∧ ∀ k, k ≠ key → M' k = M k
theorem Puts.holds {ts : List Tm} {ps : List (Int × Int)} {M M' : Tm → Option Nat} {key : Tm} {pl : Nat} (h : Puts M M' key pl) (hM : Holds ts ps M) (hs : Stands ts ps key pl) : Holds ts ps M' := by
  intro k q hq
  by_cases e : k = key
  · subst e
    rw [h.1] at hq
    cases hq
    exact hs
  · rw [h.2 k e] at hq
    exact hM k q hq
theorem Puts.covers {M M' : Tm → Option Nat} {key : Tm} {pl : Nat} (h : Puts M M' key pl) (hn : M key = none) {r : Nat → Nat} {t : Tm} {i : Nat} (hc : Covers M r t i) : Covers M' r t i := by
  obtain ⟨k, q, h1, h2, h3⟩ := hc
  exact ⟨k, q, by rw [h.2 k (by intro e; subst e; rw [hn] at h1; cases h1)]; exact h1, h2, h3⟩
/-- what a term keeps in a table: either a new entry or two places joined -/
theorem keep_covers_new {M M' : Tm → Option Nat} {r : Nat → Nat} (hr : ∀ i, r (r i) = r i) {t : Tm} {pl : Nat} (h : Puts M M' (ck r t) pl) : Covers M' r t pl :=
  ⟨ck r t, pl, h.1, rfl, ck_idem hr t⟩
theorem keep_covers_old {M : Tm → Option Nat} {r : Nat → Nat} (hr : ∀ i, r (r i) = r i) {t : Tm} {pl first : Nat} (h : M (ck r t) = some first) : Covers M (joinR r first pl) t pl :=
  ⟨ck r t, first, h, joinR_both r first pl, ck_coarser (coarser_join r first pl) (ck_idem hr t)⟩
/-- nothing more follows: r is the least -/
theorem best_of_closed {ts : List Tm} {ps : List (Int × Int)} {M : Tm → Option Nat} {r : Nat → Nat} (h : Sound ts ps r) (hp : ∀ q ∈ ps, r q.1.toNat = r q.2.toNat) (hc : ∀ i, i < ts.length → Covers M r (tm ts i) i)
    (hcl : ∀ k1 p1 k2 p2, M k1 = some p1 → M k2 = some p2 → ck r k1 = ck r k2 → r p1 = r p2) : Best ts ps r where
  le := h.1
  idem := h.2.1
  pair := hp
  sound := h.2.2
  term := by
    intro i j hi hj ho hk ha hb
    obtain ⟨k1, p1, a1, a2, a3⟩ := hc i hi
    obtain ⟨k2, p2, b1, b2, b3⟩ := hc j hj
    have pe : ∀ {x y : Int}, PE (fun x y => r x = r y) x y → cp r x = cp r y := by
      intro x y hxy
      rcases hxy with ⟨e1, e2⟩ | ⟨e1, e2, e3⟩
      · rw [e1, e2]
      · unfold cp; rw [if_neg (by omega), if_neg (by omega), e3]
    have e : ck r (tm ts i) = ck r (tm ts j) := by simp only [ck, ho, hk, pe ha, pe hb]
    rw [← a2, ← b2]
    exact hcl k1 p1 k2 p2 a1 b1 (a3.trans (e.trans b3.symm))
/-- how many tops there are below n -/
def tops (r : Nat → Nat) (n : Nat) : Nat := (List.range n).countP (fun i => r i == i)
theorem tops_join_le (r : Nat → Nat) (hr : ∀ i, r (r i) = r i) (a b n : Nat) : tops (joinR r a b) n ≤ tops r n := by
  unfold tops
  apply List.countP_mono_left
  intro i _ h
  simp only [beq_iff_eq] at h ⊢
  unfold joinR at h
  split at h
  · rename_i e
    have : r i ≤ r i := Nat.le_refl _
    have hm : r (min (r a) (r b)) = min (r a) (r b) := by
      rcases Nat.le_total (r a) (r b) with h | h
      · rw [Nat.min_eq_left h]; exact hr a
      · rw [Nat.min_eq_right h]; exact hr b
    rw [← h, hm]
  · exact h
theorem countP_lt {α : Type} {f g : α → Bool} : ∀ (l : List α), (∀ x ∈ l, f x = true → g x = true) → (∃ x ∈ l, g x = true ∧ f x = false) → l.countP f < l.countP g
  | [], _, h => by obtain ⟨x, hx, _⟩ := h; cases hx
  | x :: l, hfg, h => by
    rw [List.countP_cons, List.countP_cons]
    have hle : l.countP f ≤ l.countP g := List.countP_mono_left (fun y hy => hfg y (List.mem_cons_of_mem _ hy))
    obtain ⟨y, hy, h1, h2⟩ := h
    rcases List.mem_cons.1 hy with e | hy
    · subst e
      rw [if_pos h1, if_neg (by rw [h2]; simp)]
      omega
    · have := countP_lt l (fun z hz => hfg z (List.mem_cons_of_mem _ hz)) ⟨y, hy, h1, h2⟩
      by_cases hf : f x = true
      · rw [if_pos hf, if_pos (hfg x (List.mem_cons_self) hf)]; omega
      · rw [if_neg hf]; split <;> omega
theorem tops_join_lt {r : Nat → Nat} (h1 : ∀ i, r i ≤ i) (hr : ∀ i, r (r i) = r i) {a b n : Nat} (hne : r a ≠ r b) (ha : a < n) (hb : b < n) : tops (joinR r a b) n < tops r n := by
  unfold tops
  apply countP_lt
  · intro i hi h
    have := tops_join_le r hr a b
    simp only [beq_iff_eq] at h ⊢
    unfold joinR at h
    split at h
    · have hm : r (min (r a) (r b)) = min (r a) (r b) := by
        rcases Nat.le_total (r a) (r b) with h | h
        · rw [Nat.min_eq_left h]; exact hr a
        · rw [Nat.min_eq_right h]; exact hr b
      rw [← h, hm]
    · exact h
  · have g1 := h1 a
    have g2 := h1 b
    refine ⟨max (r a) (r b), List.mem_range.2 (by omega), ?_, ?_⟩
    · have hm : r (max (r a) (r b)) = max (r a) (r b) := by
        rcases Nat.le_total (r a) (r b) with h | h
        · rw [Nat.max_eq_right h]; exact hr b
        · rw [Nat.max_eq_left h]; exact hr a
      simp [hm]
    · have hm : r (max (r a) (r b)) = max (r a) (r b) := by
        rcases Nat.le_total (r a) (r b) with h | h
        · rw [Nat.max_eq_right h]; exact hr b
        · rw [Nat.max_eq_left h]; exact hr a
      simp only [joinR, hm, if_true, beq_eq_false_iff_ne]
      omega
/-- a chain of terms, each within the next -/
def chain (k : Nat) : List Tm := (List.range k).map fun (i : Nat) => ⟨9, 0, (i : Int) - 1, -1⟩
theorem chain_len (k : Nat) : (chain k).length = k := by simp [chain]
theorem chain_at {k i : Nat} (h : i < k) : tm (chain k) i = ⟨9, 0, (i : Int) - 1, -1⟩ := by simp [tm, chain, h]
def ringZ (k x y i : Nat) : Nat := if i < k ∧ x < i ∧ x < y then x + (i - x) % (y - x) else i
theorem ring_low {k x y i : Nat} (h : i ≤ x) : ringZ k x y i = i := by unfold ringZ; rw [if_neg (by omega)]
theorem ring_high {k x y i : Nat} (h : x ≤ i) (hi : i < k) (hxy : x < y) : ringZ k x y i = x + (i - x) % (y - x) := by
  by_cases e : i = x
  · subst e; rw [ring_low (Nat.le_refl _), Nat.sub_self, Nat.zero_mod]; rfl
  · unfold ringZ; rw [if_pos (by omega)]
theorem ring_none {k x y i : Nat} (h : ¬ x < y) : ringZ k x y i = i := by unfold ringZ; rw [if_neg (by omega)]
theorem ring_out {k x y i : Nat} (h : k ≤ i) : ringZ k x y i = i := by unfold ringZ; rw [if_neg (by omega)]
theorem mod_succ {a b d : Nat} (h : a % d = b % d) : (a + 1) % d = (b + 1) % d := by rw [Nat.add_mod, h, ← Nat.add_mod]
theorem ring_best {k x y : Nat} (hxy : x ≤ y) (hy : y < k) : Best (chain k) [((y : Int), (x : Int))] (ringZ k x y) where
  le := by
    intro i
    by_cases h : i < k ∧ x < i ∧ x < y
    · rw [ring_high (by omega) h.1 h.2.2]
      have := Nat.mod_le (i - x) (y - x)
      omega
    · unfold ringZ; rw [if_neg h]; exact Nat.le_refl _
  idem := by
    intro i
    by_cases h : i < k ∧ x < i ∧ x < y
    · have hl := Nat.mod_le (i - x) (y - x)
      rw [ring_high (by omega) h.1 h.2.2, ring_high (by omega) (by omega) h.2.2, Nat.add_sub_cancel_left, Nat.mod_mod]
    · have e : ringZ k x y i = i := by unfold ringZ; rw [if_neg h]
      rw [e, e]
  pair := by
    intro q hq
    simp only [List.mem_singleton] at hq
    subst hq
    simp only [Int.toNat_natCast]
    by_cases h : x < y
    · rw [ring_high (by omega) hy h, ring_low (Nat.le_refl _), Nat.mod_self]; rfl
    · have : x = y := by omega
      rw [this]
  term := by
    intro i j hi hj _ _ ha _
    rw [chain_len] at hi hj
    rw [chain_at hi, chain_at hj] at ha
    rcases ha with ⟨e1, e2⟩ | ⟨e1, e2, e3⟩
    · have : i = j := by simp only at e1 e2; omega
      rw [this]
    · simp only at e1 e2
      obtain ⟨i', rfl⟩ : ∃ i', i = i' + 1 := ⟨i - 1, by omega⟩
      obtain ⟨j', rfl⟩ : ∃ j', j = j' + 1 := ⟨j - 1, by omega⟩
      have t1 : (((i' + 1 : Nat) : Int) - 1).toNat = i' := by omega
      have t2 : (((j' + 1 : Nat) : Int) - 1).toNat = j' := by omega
      simp only [t1, t2] at e3
      by_cases h : x < y
      · by_cases hi' : x ≤ i' <;> by_cases hj' : x ≤ j'
        · rw [ring_high hi' (by omega) h, ring_high hj' (by omega) h] at e3
          rw [ring_high (by omega) hi h, ring_high (by omega) hj h]
          have e4 : (i' - x) % (y - x) = (j' - x) % (y - x) := by omega
          have e5 := mod_succ e4
          have r1 : i' + 1 - x = i' - x + 1 := by omega
          have r2 : j' + 1 - x = j' - x + 1 := by omega
          rw [r1, r2, e5]
        · rw [ring_high hi' (by omega) h, ring_low (by omega)] at e3; omega
        · rw [ring_low (by omega), ring_high hj' (by omega) h] at e3; omega
        · rw [ring_low (by omega), ring_low (by omega)] at e3
          rw [e3]
      · rw [ring_none h, ring_none h] at e3
        rw [e3]
  sound := by
    intro E hE i
    by_cases h : i < k ∧ x < i ∧ x < y
    · obtain ⟨hik, hxi, hlt⟩ := h
      have hp : E y x := by simpa using hE.pair ((y : Int), (x : Int)) (by simp)
      have step : ∀ j, y + j < k → E (y + j) (x + j) := by
        intro j
        induction j with
        | zero => intro _; exact hp
        | succ j ih =>
          intro hj
          refine hE.term _ _ (by rw [chain_len]; omega) (by rw [chain_len]; omega) ?_ ?_ ?_ ?_
          · rw [chain_at (by omega), chain_at (by omega)]
          · rw [chain_at (by omega), chain_at (by omega)]
          · rw [chain_at (by omega), chain_at (by omega)]
            refine .inr ⟨by simp only; omega, by simp only; omega, ?_⟩
            have t1 : (((y + (j + 1) : Nat) : Int) - 1).toNat = y + j := by omega
            have t2 : (((x + (j + 1) : Nat) : Int) - 1).toNat = x + j := by omega
            simp only [t1, t2]
            exact ih (by omega)
          · rw [chain_at (by omega), chain_at (by omega)]
            exact .inl ⟨rfl, rfl⟩
      have all : ∀ j, x + j < k → E (x + j) (x + j % (y - x)) := by
        intro j
        induction j using Nat.strongRecOn with
        | ind j ih =>
          intro hj
          by_cases hd : j < y - x
          · rw [Nat.mod_eq_of_lt hd]; exact hE.refl _
          · have e1 := step (j - (y - x)) (by omega)
            have e2 := ih (j - (y - x)) (by omega) (by omega)
            have r1 : y + (j - (y - x)) = x + j := by omega
            rw [r1] at e1
            rw [Nat.mod_eq_sub_mod (by omega)]
            exact hE.trans _ _ _ e1 e2
      rw [ring_high (by omega) hik hlt]
      have := all (i - x) (by omega)
      rwa [Nat.add_sub_cancel' (by omega)] at this
    · have e : ringZ k x y i = i := by unfold ringZ; rw [if_neg h]
      rw [e]; exact hE.refl _
end Go.Proofs.Ytanlmfcllebopaa
