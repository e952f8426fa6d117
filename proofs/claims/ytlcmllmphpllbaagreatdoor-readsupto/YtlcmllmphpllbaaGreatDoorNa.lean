/- the law's Book of lists of nodes: what it holds, in plain words. -/
import Derived.Test.YtlcmllmphpllbaaGreatDoorZl
namespace Go.Proofs.YtlcmllmphpllbaaGreatDoor
open Go.RowKit

/-- cell k of a list of nodes all of which are the mark m -/
def patN (m : Int) (k : Nat) : Value := .int .i64 (if k % 6 = 0 ∨ k % 6 = 3 then m else 0)
def patL (m : Int) (n : Nat) : List Value := (List.range (n * 6)).map (patN m)
theorem patL_len (m : Int) (n : Nat) : (patL m n).length = n * 6 := by simp [patL]
theorem patN_add (m : Int) (n k : Nat) : patN m (n * 6 + k) = patN m k := by
  have : (n * 6 + k) % 6 = k % 6 := by omega
  unfold patN
  rw [this]
theorem patL_at {m : Int} {n k : Nat} (h : k < n * 6) : (patL m n)[k]? = some (patN m k) := by simp [patL, h]
theorem patL_app (m : Int) (n c : Nat) : patL m n ++ patL m c = patL m (n + c) := by
  apply List.ext_getElem?
  intro k
  by_cases h : k < n * 6
  · rw [List.getElem?_append_left (by rw [patL_len]; exact h), patL_at h, patL_at (by omega)]
  · rw [List.getElem?_append_right (by rw [patL_len]; omega), patL_len]
    by_cases h2 : k - n * 6 < c * 6
    · rw [patL_at h2, patL_at (by omega)]
      have e := patN_add m n (k - n * 6)
      rw [← e]
      congr 2
      omega
    · rw [List.getElem?_eq_none (by rw [patL_len]; omega), List.getElem?_eq_none (by rw [patL_len]; omega)]
theorem patL_one (m : Int) : patL m 1 = [.int .i64 m, .int .i64 0, .int .i64 0, .int .i64 m, .int .i64 0, .int .i64 0] := rfl
theorem patL_two (m : Int) : patL m 2 = [.int .i64 m, .int .i64 0, .int .i64 0, .int .i64 m, .int .i64 0, .int .i64 0, .int .i64 m, .int .i64 0, .int .i64 0, .int .i64 m, .int .i64 0, .int .i64 0] := rfl
theorem patL_three (m : Int) : patL m 3 = [.int .i64 m, .int .i64 0, .int .i64 0, .int .i64 m, .int .i64 0, .int .i64 0, .int .i64 m, .int .i64 0, .int .i64 0, .int .i64 m, .int .i64 0, .int .i64 0, .int .i64 m, .int .i64 0, .int .i64 0, .int .i64 m, .int .i64 0, .int .i64 0] := rfl
theorem patL_news (m : Int) (n c : Nat) : ∀ q x, (patL m c)[q]? = some x → x = patN m (n * 6 + q) := by
  intro q x h
  by_cases hq : q < c * 6
  · rw [patL_at hq] at h
    rw [patN_add]
    exact (Option.some.inj h).symm
  · rw [List.getElem?_eq_none (by rw [patL_len]; omega)] at h
    cases h
/-- a list all of whose nodes are the mark m -/
def MarkedN (w : World) (v : Value) (m : Int) : Prop := ∃ ao n cap, v = .slice ao n cap ∧ n ≤ 2000 ∧ ∀ k, k < n * 6 → ∃ g, ao = some ⟨g, 0, none⟩ ∧ w.cell? ⟨g, k, none⟩ = some (patN m k)
theorem MarkedN.keeps {w w' : World} {v : Value} {m : Int} {S : Nat → Prop} (h : MarkedN w v m) (hk : Keeps S w w') (hs : ∀ g, v.ownBlock = some g → ¬ S g) : MarkedN w' v m := by
  obtain ⟨ao, n, cap, rfl, hn, h⟩ := h
  refine ⟨ao, n, cap, rfl, hn, fun k hk' => ?_⟩
  obtain ⟨g, rfl, hc⟩ := h k hk'
  exact ⟨g, rfl, (hk.cell (World.block_lt_of_cell? w _ hc) (hs g rfl)).trans hc⟩
theorem MarkedN.holds {w w' : World} {v : Value} {m : Int} (h : MarkedN w v m) (hh : ∀ b k, w.cell? ⟨b, k, none⟩ = some (patN m k) → w'.cell? ⟨b, k, none⟩ = some (patN m k)) : MarkedN w' v m := by
  obtain ⟨ao, n, cap, rfl, hn, h⟩ := h
  refine ⟨ao, n, cap, rfl, hn, fun k hk' => ?_⟩
  obtain ⟨g, rfl, hc⟩ := h k hk'
  exact ⟨g, rfl, hh g k hc⟩
theorem MarkedN.of_owns {w : World} {base n : Nat} {v : Value} {m : Int} (h : w.ownsRow base 42 6 v n (patL m n)) (hn : n ≤ 2000) : MarkedN w v m := by
  rcases h.2 with ⟨rfl, rfl⟩ | ⟨g, cap, cur, rfl, _⟩
  · exact ⟨none, 0, 0, rfl, by omega, fun k hk => absurd hk (by omega)⟩
  · refine ⟨some ⟨g, 0, none⟩, n, cap, rfl, hn, fun k hk => ⟨g, rfl, ?_⟩⟩
    rw [World.ownsRow.cellAt h k hk, patL_at hk]
/-- a book in block bb that has no lists of numbers; I: its lists of nodes, each with its mark -/
structure NBook (w : World) (bb base : Nat) (vi vm : Value) (I : List (Value × Int)) (next : Int) : Prop where
  lo : base ≤ bb
  lt : bb < w.heap.size
  c0 : w.cell? ⟨bb, 2, none⟩ = some (.slice none 0 0)
  c1 : w.cell? ⟨bb, 3, none⟩ = some (.slice none 0 0)
  c2 : w.cell? ⟨bb, 0, none⟩ = some vi
  c3 : w.cell? ⟨bb, 1, none⟩ = some vm
  c4 : w.cell? ⟨bb, 4, none⟩ = some (.int .i64 next)
  fz : ∀ i, w.frozen? ⟨bb, i, none⟩ = false
  ri : w.ownsRow base 32 1 vi I.length (I.map (·.1))
  rm : w.ownsRow base 3 1 vm I.length (I.map fun x => .int .i64 x.2)
  di : vi.ownBlock ≠ some bb
  dm : vm.ownBlock ≠ some bb
  dim : ∀ g, vi.ownBlock = some g → vm.ownBlock ≠ some g
  marks : ∀ x ∈ I, MarkedN w x.1 x.2
  dl : ∀ x ∈ I, ∀ g, x.1.ownBlock = some g → ¬ BookOwn bb vi vm g
  ll : ∀ x ∈ I, ∀ g, x.1.ownBlock = some g → g < w.heap.size
theorem NBook.keeps {w w' : World} {bb base : Nat} {vi vm : Value} {I : List (Value × Int)} {next : Int} {S : Nat → Prop} (h : NBook w bb base vi vm I next) (hk : Keeps S w w') (hs : ∀ g, BookOwn bb vi vm g → ¬ S g) (hl : ∀ x ∈ I, ∀ g, x.1.ownBlock = some g → ¬ S g) : NBook w' bb base vi vm I next where
  lo := h.lo
  lt := Nat.lt_of_lt_of_le h.lt hk.size
  c0 := (hk.cell h.lt (hs _ (.inl rfl))).trans h.c0
  c1 := (hk.cell h.lt (hs _ (.inl rfl))).trans h.c1
  c2 := (hk.cell h.lt (hs _ (.inl rfl))).trans h.c2
  c3 := (hk.cell h.lt (hs _ (.inl rfl))).trans h.c3
  c4 := (hk.cell h.lt (hs _ (.inl rfl))).trans h.c4
  fz := fun i => (hk.frozen h.lt (hs _ (.inl rfl))).trans (h.fz i)
  ri := ownsRow_keeps h.ri hk fun g e => hs g (.inr (.inl e))
  rm := ownsRow_keeps h.rm hk fun g e => hs g (.inr (.inr e))
  di := h.di
  dm := h.dm
  dim := h.dim
  marks := fun x hx => (h.marks x hx).keeps hk (hl x hx)
  dl := h.dl
  ll := fun x hx g e => Nat.lt_of_lt_of_le (h.ll x hx g e) hk.size
theorem NBook.below {w w' : World} {bb base : Nat} {vi vm : Value} {I : List (Value × Int)} {next : Int} (h : NBook w bb base vi vm I next) (hb : Below w.heap.size w w') : NBook w' bb base vi vm I next :=
  h.keeps (S := fun _ => False) (Keeps.of_below hb) (fun _ _ => id) (fun _ _ _ _ => id)
theorem NBook.own_lt {w : World} {bb base : Nat} {vi vm : Value} {I : List (Value × Int)} {next : Int} (h : NBook w bb base vi vm I next) : ∀ g, BookOwn bb vi vm g → base ≤ g ∧ g < w.heap.size := by
  rintro g (rfl | e | e)
  · exact ⟨h.lo, h.lt⟩
  · exact h.ri.lt g e
  · exact h.rm.lt g e
/-- four lists more -/
theorem NBook.more {w w' : World} {bb base : Nat} {vi vm : Value} {I : List (Value × Int)} {next next' : Int} (h : NBook w bb base vi vm I next) {v : Value} (hvI : ∀ x ∈ I, ∀ g, x.1.ownBlock = some g → v.ownBlock ≠ some g) (hvB : ∀ g, v.ownBlock = some g → ¬ BookOwn bb vi vm g)
    (hk : Keeps (fun k => BookOwn bb vi vm k ∨ v.ownBlock = some k) w w') {gi ci gm cm : Nat} {J : List (Value × Int)}
    (c2 : w'.cell? ⟨bb, 0, none⟩ = some (.slice (some ⟨gi, 0, none⟩) (I ++ J).length ci)) (c3 : w'.cell? ⟨bb, 1, none⟩ = some (.slice (some ⟨gm, 0, none⟩) (I ++ J).length cm)) (c4 : w'.cell? ⟨bb, 4, none⟩ = some (.int .i64 next'))
    (c0 : w'.cell? ⟨bb, 2, none⟩ = some (.slice none 0 0)) (c1 : w'.cell? ⟨bb, 3, none⟩ = some (.slice none 0 0)) (fz : ∀ i, w'.frozen? ⟨bb, i, none⟩ = false)
    (ri : w'.ownsRow base 32 1 (.slice (some ⟨gi, 0, none⟩) (I ++ J).length ci) (I ++ J).length ((I ++ J).map (·.1))) (rm : w'.ownsRow base 3 1 (.slice (some ⟨gm, 0, none⟩) (I ++ J).length cm) (I ++ J).length ((I ++ J).map fun x => .int .i64 x.2))
    (li : vi.ownBlock = some gi ∨ w.heap.size ≤ gi) (lm : vm.ownBlock = some gm ∨ w.heap.size ≤ gm) (him : gi ≠ gm)
    (hJ : ∀ x ∈ J, MarkedN w' x.1 x.2 ∧ ∀ g, x.1.ownBlock = some g → g < w'.heap.size ∧ g ≠ bb ∧ g ≠ gi ∧ g ≠ gm) : NBook w' bb base (.slice (some ⟨gi, 0, none⟩) (I ++ J).length ci) (.slice (some ⟨gm, 0, none⟩) (I ++ J).length cm) (I ++ J) next' := by
  have hbi : gi ≠ bb := by
    rcases li with e | e
    · intro e2; subst e2; exact h.di e
    · have := h.lt; omega
  have hbm : gm ≠ bb := by
    rcases lm with e | e
    · intro e2; subst e2; exact h.dm e
    · have := h.lt; omega
  refine ⟨h.lo, Nat.lt_of_lt_of_le h.lt hk.size, c0, c1, c2, c3, c4, fz, ri, rm, ?_, ?_, ?_, fun x hx => ?_, fun x hx g e => ?_, fun x hx g e => ?_⟩
  · rw [own_slice]; simpa using hbi
  · rw [own_slice]; simpa using hbm
  · intro g e
    rw [own_slice] at e ⊢
    cases e
    simpa using fun e => him e.symm
  · rcases List.mem_append.1 hx with hx | hx
    · refine (h.marks x hx).keeps hk fun g e => ?_
      rintro (e2 | e2)
      · exact h.dl x hx g e e2
      · exact hvI x hx g e e2
    · exact (hJ x hx).1
  · rcases List.mem_append.1 hx with hx | hx
    · have hl := h.ll x hx g e
      have hd := h.dl x hx g e
      rintro (rfl | e2 | e2)
      · exact hd (.inl rfl)
      · rw [own_slice] at e2
        cases e2
        rcases li with e3 | e3
        · exact hd (.inr (.inl e3))
        · exact absurd (show gi < w.heap.size from hl) (by omega)
      · rw [own_slice] at e2
        cases e2
        rcases lm with e3 | e3
        · exact hd (.inr (.inr e3))
        · exact absurd (show gm < w.heap.size from hl) (by omega)
    · obtain ⟨_, q1, q2, q3⟩ := (hJ x hx).2 g e
      rintro (e2 | e2 | e2)
      · exact q1 e2
      · rw [own_slice] at e2; cases e2; exact q2 rfl
      · rw [own_slice] at e2; cases e2; exact q3 rfl
  · rcases List.mem_append.1 hx with hx | hx
    · exact Nat.lt_of_lt_of_le (h.ll x hx g e) hk.size
    · exact ((hJ x hx).2 g e).1
/-- the mark as a node in a block of its own -/
def XAt (w : World) (b : Nat) (m : Int) : Prop := b < w.heap.size ∧ w.cell? ⟨b, 0, none⟩ = some (.int .i64 m) ∧ w.cell? ⟨b, 1, none⟩ = some (.int .i64 0) ∧ w.cell? ⟨b, 2, none⟩ = some (.int .i64 0) ∧ w.cell? ⟨b, 3, none⟩ = some (.int .i64 m) ∧ w.cell? ⟨b, 4, none⟩ = some (.int .i64 0) ∧ w.cell? ⟨b, 5, none⟩ = some (.int .i64 0)
theorem XAt.keeps {w w' : World} {b : Nat} {m : Int} {S : Nat → Prop} (h : XAt w b m) (hk : Keeps S w w') (hs : ¬ S b) : XAt w' b m := by
  obtain ⟨h0, c0, c1, c2, c3, c4, c5⟩ := h
  exact ⟨Nat.lt_of_lt_of_le h0 hk.size, (hk.cell (by exact h0) hs).trans c0, (hk.cell (by exact h0) hs).trans c1, (hk.cell (by exact h0) hs).trans c2, (hk.cell (by exact h0) hs).trans c3, (hk.cell (by exact h0) hs).trans c4, (hk.cell (by exact h0) hs).trans c5⟩
end Go.Proofs.YtlcmllmphpllbaaGreatDoor
