/- the law's Book of lists of numbers: what it holds, in plain words. -/
import Derived.Test.YtlcmllmphpllbaaGreatDoorZk
import Derived.Test.YtlcmllmphpllbaaGreatDoorKp
namespace Go.Proofs.YtlcmllmphpllbaaGreatDoor
open Go.RowKit

/-- a list all of whose numbers are m -/
def Marked (w : World) (v : Value) (m : Int) : Prop := ∃ ao n cap, v = .slice ao n cap ∧ n ≤ 2000 ∧ ∀ k, k < n → ∃ g, ao = some ⟨g, 0, none⟩ ∧ w.cell? ⟨g, k, none⟩ = some (.int .i64 m)
theorem Marked.keeps {w w' : World} {v : Value} {m : Int} {S : Nat → Prop} (h : Marked w v m) (hk : Keeps S w w') (hs : ∀ g, v.ownBlock = some g → ¬ S g) : Marked w' v m := by
  obtain ⟨ao, n, cap, rfl, hn, h⟩ := h
  refine ⟨ao, n, cap, rfl, hn, fun k hk' => ?_⟩
  obtain ⟨g, rfl, hc⟩ := h k hk'
  exact ⟨g, rfl, (hk.cell (World.block_lt_of_cell? w _ hc) (hs g rfl)).trans hc⟩
theorem Marked.holds {w w' : World} {v : Value} {m : Int} (h : Marked w v m) (hh : ∀ b k, w.cell? ⟨b, k, none⟩ = some (.int .i64 m) → w'.cell? ⟨b, k, none⟩ = some (.int .i64 m)) : Marked w' v m := by
  obtain ⟨ao, n, cap, rfl, hn, h⟩ := h
  refine ⟨ao, n, cap, rfl, hn, fun k hk' => ?_⟩
  obtain ⟨g, rfl, hc⟩ := h k hk'
  exact ⟨g, rfl, hh g k hc⟩
theorem Marked.of_owns {w : World} {base n : Nat} {v : Value} {m : Int} (h : w.ownsRow base 3 1 v n (List.replicate n (.int .i64 m))) (hn : n ≤ 2000) : Marked w v m := by
  rcases h.2 with ⟨rfl, rfl⟩ | ⟨g, cap, cur, rfl, _⟩
  · exact ⟨none, 0, 0, rfl, by omega, fun k hk => absurd hk (Nat.not_lt_zero _)⟩
  · refine ⟨some ⟨g, 0, none⟩, n, cap, rfl, hn, fun k hk => ⟨g, rfl, ?_⟩⟩
    rw [World.ownsRow.cellAt h k (by omega)]
    simp [hk]
/-- the blocks of the book itself -/
def BookOwn (bb : Nat) (vi vm : Value) (k : Nat) : Prop := k = bb ∨ vi.ownBlock = some k ∨ vm.ownBlock = some k
/-- a book in block bb that has no lists of nodes; I: its lists of numbers, each with its mark -/
structure IBook (w : World) (bb base : Nat) (vi vm : Value) (I : List (Value × Int)) (next : Int) : Prop where
  lo : base ≤ bb
  lt : bb < w.heap.size
  c0 : w.cell? ⟨bb, 0, none⟩ = some (.slice none 0 0)
  c1 : w.cell? ⟨bb, 1, none⟩ = some (.slice none 0 0)
  c2 : w.cell? ⟨bb, 2, none⟩ = some vi
  c3 : w.cell? ⟨bb, 3, none⟩ = some vm
  c4 : w.cell? ⟨bb, 4, none⟩ = some (.int .i64 next)
  fz : ∀ i, w.frozen? ⟨bb, i, none⟩ = false
  ri : w.ownsRow base 25 1 vi I.length (I.map (·.1))
  rm : w.ownsRow base 3 1 vm I.length (I.map fun x => .int .i64 x.2)
  di : vi.ownBlock ≠ some bb
  dm : vm.ownBlock ≠ some bb
  dim : ∀ g, vi.ownBlock = some g → vm.ownBlock ≠ some g
  marks : ∀ x ∈ I, Marked w x.1 x.2
  dl : ∀ x ∈ I, ∀ g, x.1.ownBlock = some g → ¬ BookOwn bb vi vm g
  ll : ∀ x ∈ I, ∀ g, x.1.ownBlock = some g → g < w.heap.size
theorem ownsRow_keeps {w w' : World} {base : Nat} {e : TypeId} {size n : Nat} {v : Value} {xs : List Value} {S : Nat → Prop} (h : w.ownsRow base e size v n xs) (hk : Keeps S w w') (hs : ∀ g, v.ownBlock = some g → ¬ S g) : w'.ownsRow base e size v n xs := by
  refine ⟨h.1, ?_⟩
  rcases h.2 with h' | ⟨g, cap, cur, rfl, hb, hg, r⟩
  · exact .inl h'
  · exact .inr ⟨g, cap, cur, rfl, hb, (hk.block g (Array.getElem?_eq_some_iff.1 hg).1 (hs g rfl)).trans hg, r⟩
theorem IBook.keeps {w w' : World} {bb base : Nat} {vi vm : Value} {I : List (Value × Int)} {next : Int} {S : Nat → Prop} (h : IBook w bb base vi vm I next) (hk : Keeps S w w') (hs : ∀ g, BookOwn bb vi vm g → ¬ S g) (hl : ∀ x ∈ I, ∀ g, x.1.ownBlock = some g → ¬ S g) : IBook w' bb base vi vm I next where
  lo := h.lo
  lt := Nat.lt_of_lt_of_le h.lt hk.size
  c0 := (hk.cell h.lt (hs _ (.inl rfl))).trans h.c0
  c1 := (hk.cell h.lt (hs _ (.inl rfl))).trans h.c1
  c2 := (hk.cell h.lt (hs _ (.inl rfl))).trans h.c2
  c3 := (hk.cell h.lt (hs _ (.inl rfl))).trans h.c3
  c4 := (hk.cell h.lt (hs _ (.inl rfl))).trans h.c4
  fz := fun i => (hk.frozen h.lt (hs _ (.inl rfl))).trans (h.fz i)
  ri := ownsRow_keeps h.ri hk fun g e => hs g (.inr (.inl e))
  rm := ownsRow_keeps h.rm hk fun g e => hs g (.inr (.inr e))
  di := h.di
  dm := h.dm
  dim := h.dim
  marks := fun x hx => (h.marks x hx).keeps hk (hl x hx)
  dl := h.dl
  ll := fun x hx g e => Nat.lt_of_lt_of_le (h.ll x hx g e) hk.size
theorem IBook.below {w w' : World} {bb base : Nat} {vi vm : Value} {I : List (Value × Int)} {next : Int} (h : IBook w bb base vi vm I next) (hb : Below w.heap.size w w') : IBook w' bb base vi vm I next :=
  h.keeps (S := fun _ => False) (Keeps.of_below hb) (fun _ _ => id) (fun _ _ _ _ => id)
theorem IBook.own_lt {w : World} {bb base : Nat} {vi vm : Value} {I : List (Value × Int)} {next : Int} (h : IBook w bb base vi vm I next) : ∀ g, BookOwn bb vi vm g → base ≤ g ∧ g < w.heap.size := by
  rintro g (rfl | e | e)
  · exact ⟨h.lo, h.lt⟩
  · exact h.ri.lt g e
  · exact h.rm.lt g e
theorem own_slice (a : Addr) (n c : Nat) : (Value.slice (some a) n c).ownBlock = some a.block := rfl
/-- four lists more -/
theorem IBook.more {w w' : World} {bb base : Nat} {vi vm : Value} {I : List (Value × Int)} {next next' : Int} (h : IBook w bb base vi vm I next) {v : Value} (hvI : ∀ x ∈ I, ∀ g, x.1.ownBlock = some g → v.ownBlock ≠ some g) (hvB : ∀ g, v.ownBlock = some g → ¬ BookOwn bb vi vm g)
    (hk : Keeps (fun k => BookOwn bb vi vm k ∨ v.ownBlock = some k) w w') {gi ci gm cm : Nat} {J : List (Value × Int)}
    (c2 : w'.cell? ⟨bb, 2, none⟩ = some (.slice (some ⟨gi, 0, none⟩) (I ++ J).length ci)) (c3 : w'.cell? ⟨bb, 3, none⟩ = some (.slice (some ⟨gm, 0, none⟩) (I ++ J).length cm)) (c4 : w'.cell? ⟨bb, 4, none⟩ = some (.int .i64 next'))
    (c0 : w'.cell? ⟨bb, 0, none⟩ = some (.slice none 0 0)) (c1 : w'.cell? ⟨bb, 1, none⟩ = some (.slice none 0 0)) (fz : ∀ i, w'.frozen? ⟨bb, i, none⟩ = false)
    (ri : w'.ownsRow base 25 1 (.slice (some ⟨gi, 0, none⟩) (I ++ J).length ci) (I ++ J).length ((I ++ J).map (·.1))) (rm : w'.ownsRow base 3 1 (.slice (some ⟨gm, 0, none⟩) (I ++ J).length cm) (I ++ J).length ((I ++ J).map fun x => .int .i64 x.2))
    (li : vi.ownBlock = some gi ∨ w.heap.size ≤ gi) (lm : vm.ownBlock = some gm ∨ w.heap.size ≤ gm) (him : gi ≠ gm)
    (hJ : ∀ x ∈ J, Marked w' x.1 x.2 ∧ ∀ g, x.1.ownBlock = some g → g < w'.heap.size ∧ g ≠ bb ∧ g ≠ gi ∧ g ≠ gm) : IBook w' bb base (.slice (some ⟨gi, 0, none⟩) (I ++ J).length ci) (.slice (some ⟨gm, 0, none⟩) (I ++ J).length cm) (I ++ J) next' := by
  have hbi : gi ≠ bb := by
    rcases li with e | e
    · intro e2; subst e2; exact h.di e
    · have := h.lt; omega
  have hbm : gm ≠ bb := by
    rcases lm with e | e
    · intro e2; subst e2; exact h.dm e
    · have := h.lt; omega
  refine ⟨h.lo, Nat.lt_of_lt_of_le h.lt hk.size, c0, c1, c2, c3, c4, fz, ri, rm, ?_, ?_, ?_, fun x hx => ?_, fun x hx g e => ?_, fun x hx g e => ?_⟩
  · rw [own_slice]; simpa using hbi
  · rw [own_slice]; simpa using hbm
  · intro g e
    rw [own_slice] at e ⊢
    cases e
    simpa using fun e => him e.symm
  · rcases List.mem_append.1 hx with hx | hx
    · refine (h.marks x hx).keeps hk fun g e => ?_
      rintro (e2 | e2)
      · exact h.dl x hx g e e2
      · exact hvI x hx g e e2
    · exact (hJ x hx).1
  · rcases List.mem_append.1 hx with hx | hx
    · have hl := h.ll x hx g e
      have hd := h.dl x hx g e
      rintro (rfl | e2 | e2)
      · exact hd (.inl rfl)
      · rw [own_slice] at e2
        cases e2
        rcases li with e3 | e3
        · exact hd (.inr (.inl e3))
        · exact absurd (show gi < w.heap.size from hl) (by omega)
      · rw [own_slice] at e2
        cases e2
        rcases lm with e3 | e3
        · exact hd (.inr (.inr e3))
        · exact absurd (show gm < w.heap.size from hl) (by omega)
    · obtain ⟨_, q1, q2, q3⟩ := (hJ x hx).2 g e
      rintro (e2 | e2 | e2)
      · exact q1 e2
      · rw [own_slice] at e2; cases e2; exact q2 rfl
      · rw [own_slice] at e2; cases e2; exact q3 rfl
  · rcases List.mem_append.1 hx with hx | hx
    · exact Nat.lt_of_lt_of_le (h.ll x hx g e) hk.size
    · exact ((hJ x hx).2 g e).1
end Go.Proofs.YtlcmllmphpllbaaGreatDoor
