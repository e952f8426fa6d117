/- (*thriftlaw.Book).ownsNodes, walked. -/
import Derived.Test.YtlcmllmphpllbaaGreatDoorNa
import Derived.Deep.RegionLaw
import Derived.Deep.Cut
import Derived.Deep.CutRange
import Derived.Deep.RegionHeld3
namespace Go.Proofs.YtlcmllmphpllbaaGreatDoor
open Go.RowKit

theorem nInfo : (Tryz.prog.info? 3).map (fun i => (i.zero, i.size, i.bytes)) = some (some (.int .i64 0), 1, 8) := by kernel_rfl
theorem nInfoNd : (Tryz.prog.info? 42).map (fun i => (i.zero, i.size, i.bytes)) = some (some (.agg #[.int .i64 0, .int .i64 0, .int .i64 0, .int .i64 0, .int .i64 0, .int .i64 0]), 6, 48) := by kernel_rfl
theorem nInfos : (Tryz.prog.info? 32).map (fun i => (i.zero, i.size, i.bytes)) = some (some (.slice none 0 0), 1, 24) := by kernel_rfl
theorem nUnderInts : Tryz.prog.underlying 25 = some (.slice 3) := by kernel_rfl
theorem nUnderNds : Tryz.prog.underlying 32 = some (.slice 42) := by kernel_rfl
theorem nUnderNdss : Tryz.prog.underlying 24 = some (.slice 32) := by kernel_rfl
theorem ninfo_parts {P : Program} {t : TypeId} {z : Option Value} {a b : Nat} (h : (P.info? t).map (fun i => (i.zero, i.size, i.bytes)) = some (z, a, b)) : ∃ i, P.info? t = some i ∧ i.zero = z ∧ i.size = a ∧ i.bytes = b := by
  cases hi : P.info? t with
  | none => rw [hi] at h; cases h
  | some i =>
    rw [hi] at h
    simp only [Option.map_some, Option.some.injEq, Prod.mk.injEq] at h
    exact ⟨i, rfl, h.1, h.2.1, h.2.2⟩
/-- the first k are m, the others as they were -/
def markN (m : Int) (k : Nat) (xs : List Value) : List Value := patL m k ++ xs.drop (k * 6)
theorem markN_zero (m : Int) (xs : List Value) : markN m 0 xs = xs := by simp [markN, patL]
theorem markN_all {m : Int} {n : Nat} {xs : List Value} (h : xs.length = n * 6) : markN m n xs = patL m n := by simp [markN, ← h]
theorem set6 (p : List Value) (x0 x1 x2 x3 x4 x5 a b c d e f : Value) (r : List Value) (m : Nat) (h : p.length = m * 6) :
    ((((((p ++ x0 :: x1 :: x2 :: x3 :: x4 :: x5 :: r).set (m * 6) a).set (m * 6 + 1) b).set (m * 6 + 2) c).set (m * 6 + 3) d).set (m * 6 + 4) e).set (m * 6 + 5) f = p ++ [a, b, c, d, e, f] ++ r := by
  rw [← h]
  simp [List.set_append_right]
theorem markN_set {m : Int} {k n : Nat} {xs : List Value} (h : k < n) (hl : xs.length = n * 6) : (((((((markN m k xs).set (k * 6) (.int .i64 m)).set (k * 6 + 1) (.int .i64 0)).set (k * 6 + 2) (.int .i64 0)).set (k * 6 + 3) (.int .i64 m)).set (k * 6 + 4) (.int .i64 0)).set (k * 6 + 5) (.int .i64 0)) = markN m (k + 1) xs := by
  unfold markN
  obtain ⟨x0, x1, x2, x3, x4, x5, r, hr⟩ : ∃ x0 x1 x2 x3 x4 x5 r, xs.drop (k * 6) = x0 :: x1 :: x2 :: x3 :: x4 :: x5 :: r := by
    have hl' : (xs.drop (k * 6)).length = (n - k) * 6 := by rw [List.length_drop, hl, Nat.sub_mul]
    match xs.drop (k * 6), hl' with
    | x0 :: x1 :: x2 :: x3 :: x4 :: x5 :: r, _ => exact ⟨x0, x1, x2, x3, x4, x5, r, rfl⟩
    | [], h' => simp at h'; omega
    | [_], h' => simp at h'; omega
    | [_, _], h' => simp at h'; omega
    | [_, _, _], h' => simp at h'; omega
    | [_, _, _, _], h' => simp at h'; omega
    | [_, _, _, _, _], h' => simp at h'; omega
  have hd : xs.drop ((k + 1) * 6) = r := by
    have e : (k + 1) * 6 = k * 6 + 6 := by omega
    rw [e, ← List.drop_drop, hr]
    rfl
  rw [hd, hr, set6 _ _ _ _ _ _ _ _ _ _ _ _ _ _ k (patL_len m k), ← patL_app m k 1, patL_one]
/-- on the way: the book as it was, but for the number of the next mark -/
structure MidN (w wr : World) (bb base : Nat) (vi vm v : Value) (I : List (Value × Int)) (m : Int) : Prop where
  keeps : Keeps (fun k => BookOwn bb vi vm k ∨ v.ownBlock = some k) w wr
  lt : bb < wr.heap.size
  c0 : wr.cell? ⟨bb, 2, none⟩ = some (.slice none 0 0)
  c1 : wr.cell? ⟨bb, 3, none⟩ = some (.slice none 0 0)
  c2 : wr.cell? ⟨bb, 0, none⟩ = some vi
  c3 : wr.cell? ⟨bb, 1, none⟩ = some vm
  c4 : wr.cell? ⟨bb, 4, none⟩ = some (.int .i64 m)
  fz : ∀ i, wr.frozen? ⟨bb, i, none⟩ = false
  ri : wr.ownsRow base 32 1 vi I.length (I.map (·.1))
  rm : wr.ownsRow base 3 1 vm I.length (I.map fun x => .int .i64 x.2)
theorem MidN.start {w : World} {bb base : Nat} {vi vm v : Value} {I : List (Value × Int)} {next : Int} (h : NBook w bb base vi vm I next) (m : Int) : MidN w (w.setCell ⟨bb, 4, none⟩ (.int .i64 m)) bb base vi vm v I m := by
  have hk : Keeps (fun k => k = bb) w (w.setCell ⟨bb, 4, none⟩ (.int .i64 m)) := Keeps.setCell (S := fun k => k = bb) (Keeps.refl _ w) (.inl rfl) _
  refine ⟨hk.mono fun k _ e => .inl (.inl e), Nat.lt_of_lt_of_le h.lt hk.size, ?_, ?_, ?_, ?_, ?_, fun i => ?_, ownsRow_keeps h.ri hk fun g e e2 => h.di (by rw [e, e2]), ownsRow_keeps h.rm hk fun g e e2 => h.dm (by rw [e, e2])⟩
  · simp [go_sem, h.c0]
  · simp [go_sem, h.c1]
  · simp [go_sem, h.c2]
  · simp [go_sem, h.c3]
  · simp [go_sem, h.c4]
  · simp [go_sem, h.fz]
theorem MidN.next {w wr wr' : World} {bb base : Nat} {vi vm v : Value} {I : List (Value × Int)} {m : Int} (h : MidN w wr bb base vi vm v I m) (hvB : ∀ g, v.ownBlock = some g → ¬ BookOwn bb vi vm g) (hk : Keeps (fun k => v.ownBlock = some k) wr wr') : MidN w wr' bb base vi vm v I m := by
  have hb : ¬ v.ownBlock = some bb := fun e => hvB bb e (.inl rfl)
  exact ⟨h.keeps.after hk fun i _ e => .inr e, Nat.lt_of_lt_of_le h.lt hk.size, (hk.cell h.lt hb).trans h.c0, (hk.cell h.lt hb).trans h.c1, (hk.cell h.lt hb).trans h.c2, (hk.cell h.lt hb).trans h.c3, (hk.cell h.lt hb).trans h.c4, fun i => (hk.frozen h.lt hb).trans (h.fz i),
    ownsRow_keeps h.ri hk fun g e e2 => hvB g e2 (.inr (.inl e)), ownsRow_keeps h.rm hk fun g e e2 => hvB g e2 (.inr (.inr e))⟩
/-- a list that is written full, in no block of the book's -/
def LOkN (w : World) (bb : Nat) (vi vm l : Value) (m : Int) : Prop := MarkedN w l m ∧ ∀ g, l.ownBlock = some g → g < w.heap.size ∧ ¬ BookOwn bb vi vm g
theorem LOkN.holds {w w' : World} {bb : Nat} {vi vm l : Value} {m : Int} (h : LOkN w bb vi vm l m) (hs : w.heap.size ≤ w'.heap.size) (hh : ∀ b k, w.cell? ⟨b, k, none⟩ = some (patN m k) → w'.cell? ⟨b, k, none⟩ = some (patN m k)) : LOkN w' bb vi vm l m :=
  ⟨h.1.holds hh, fun g e => ⟨Nat.lt_of_lt_of_le (h.2 g e).1 hs, (h.2 g e).2⟩⟩
theorem LOkN.keeps {w w' : World} {bb : Nat} {vi vm l : Value} {m : Int} {S : Nat → Prop} (h : LOkN w bb vi vm l m) (hk : Keeps S w w') (hs : ∀ g, l.ownBlock = some g → g < w.heap.size → ¬ BookOwn bb vi vm g → ¬ S g) : LOkN w' bb vi vm l m :=
  ⟨h.1.keeps hk fun g e => hs g e (h.2 g e).1 (h.2 g e).2, fun g e => ⟨Nat.lt_of_lt_of_le (h.2 g e).1 hk.size, (h.2 g e).2⟩⟩
/-- one more list, behind an append on v -/
theorem MidN.append {w wr w0 w1 : World} {bb base : Nat} {vi vm v : Value} {I : List (Value × Int)} {m : Int} {n c g cap : Nat} (h : MidN w wr bb base vi vm v I m) (hvB : ∀ g, v.ownBlock = some g → ¬ BookOwn bb vi vm g) (hB : ∀ g, BookOwn bb vi vm g → g < wr.heap.size) (h0 : Below wr.heap.size wr w0) (hn : n + c ≤ 2000)
    (ho : w1.ownsRow base 42 6 (.slice (some ⟨g, 0, none⟩) (n + c) cap) (n + c) (patL m n ++ patL m c)) (hg : w0.grownBy w1 v.ownBlock) (hl : v.ownBlock = some g ∨ wr.heap.size ≤ g)
    (hh : ∀ b k, w0.cell? ⟨b, k, none⟩ = some (patN m k) → w1.cell? ⟨b, k, none⟩ = some (patN m k)) :
    MidN w w1 bb base vi vm v I m ∧ LOkN w1 bb vi vm (.slice (some ⟨g, 0, none⟩) (n + c) cap) m ∧ wr.heap.size ≤ w1.heap.size ∧ (∀ b k, wr.cell? ⟨b, k, none⟩ = some (patN m k) → w1.cell? ⟨b, k, none⟩ = some (patN m k)) := by
  have hsz : wr.heap.size ≤ w1.heap.size := Nat.le_trans h0.size hg.size
  refine ⟨(h.next hvB (Keeps.of_below h0)).next hvB (Keeps.of_grown hg fun j e => e), ⟨?_, fun g' e => ?_⟩, hsz, fun b k e => ?_⟩
  · rw [patL_app] at ho
    exact MarkedN.of_owns ho hn
  · rw [own_slice] at e
    cases e
    refine ⟨(World.ownsRow.lt ho g rfl).2, ?_⟩
    rcases hl with e | e
    · exact hvB g e
    · intro e2
      have h1 : g < wr.heap.size := hB _ e2
      have := h0.size
      omega
  · refine hh b k ?_
    rw [h0.cell (World.block_lt_of_cell? wr _ e)]
    exact e
/-- the lists are in -/
structure MidN2 (w wr : World) (bb base : Nat) (vi vm v : Value) (I : List (Value × Int)) (m : Int) (gi ci : Nat) (L : List Value) : Prop where
  keeps : Keeps (fun k => BookOwn bb vi vm k ∨ v.ownBlock = some k) w wr
  lt : bb < wr.heap.size
  c0 : wr.cell? ⟨bb, 2, none⟩ = some (.slice none 0 0)
  c1 : wr.cell? ⟨bb, 3, none⟩ = some (.slice none 0 0)
  c2 : wr.cell? ⟨bb, 0, none⟩ = some (.slice (some ⟨gi, 0, none⟩) (I.length + 4) ci)
  c3 : wr.cell? ⟨bb, 1, none⟩ = some vm
  c4 : wr.cell? ⟨bb, 4, none⟩ = some (.int .i64 m)
  fz : ∀ i, wr.frozen? ⟨bb, i, none⟩ = false
  ri : wr.ownsRow base 32 1 (.slice (some ⟨gi, 0, none⟩) (I.length + 4) ci) (I.length + 4) (I.map (·.1) ++ L)
  rm : wr.ownsRow base 3 1 vm I.length (I.map fun x => .int .i64 x.2)
  li : vi.ownBlock = some gi ∨ w.heap.size ≤ gi
  lg : gi < wr.heap.size
  ln : ∀ x ∈ L, LOkN wr bb vi vm x m ∧ ∀ g, x.ownBlock = some g → g ≠ gi
theorem MidN.two {w w3 w4 : World} {bb base : Nat} {vi vm v : Value} {I : List (Value × Int)} {next m : Int} {gi ci : Nat} {L : List Value} (h : MidN w w3 bb base vi vm v I m) (hB : NBook w bb base vi vm I next) (hk : Keeps (fun k => vi.ownBlock = some k) w3 w4)
    (ho : w4.ownsRow base 32 1 (.slice (some ⟨gi, 0, none⟩) (I.length + 4) ci) (I.length + 4) (I.map (·.1) ++ L)) (hl : vi.ownBlock = some gi ∨ w3.heap.size ≤ gi) (hL : ∀ x ∈ L, LOkN w3 bb vi vm x m) :
    MidN2 w (w4.setCell ⟨bb, 0, none⟩ (.slice (some ⟨gi, 0, none⟩) (I.length + 4) ci)) bb base vi vm v I m gi ci L := by
  have k5 : Keeps (fun k => k = bb) w4 (w4.setCell ⟨bb, 0, none⟩ (.slice (some ⟨gi, 0, none⟩) (I.length + 4) ci)) := Keeps.setCell (S := fun k => k = bb) (Keeps.refl _ w4) (.inl rfl) _
  have hgi : gi ≠ bb := by
    rcases hl with e | e
    · intro e2; subst e2; exact hB.di e
    · have := h.lt; omega
  have e2 : w4.cell? ⟨bb, 0, none⟩ = some vi := (hk.cell h.lt hB.di).trans h.c2
  refine ⟨(h.keeps.after hk fun i _ e => .inl (.inr (.inl e))).after k5 fun i _ e => .inl (.inl e), Nat.lt_of_lt_of_le h.lt (Nat.le_trans hk.size k5.size), ?_, ?_, ?_, ?_, ?_, fun i => ?_, ownsRow_keeps ho k5 fun g e e3 => ?_,
    ownsRow_keeps (ownsRow_keeps h.rm hk fun g e e3 => hB.dim g e3 e) k5 fun g e e3 => hB.dm (by rw [e, e3]), hl.imp id fun e => Nat.le_trans h.keeps.size e, Nat.lt_of_lt_of_le (World.ownsRow.lt ho gi rfl).2 k5.size, fun x hx => ⟨((hL x hx).keeps hk fun g _ _ h3 e => h3 (.inr (.inl e))).keeps k5 fun g _ _ h3 e => h3 (.inl e), fun g e => ?_⟩⟩
  · simp [go_sem, (hk.cell h.lt hB.di).trans h.c0]
  · simp [go_sem, (hk.cell h.lt hB.di).trans h.c1]
  · simp [go_sem, e2]
  · simp [go_sem, (hk.cell h.lt hB.di).trans h.c3]
  · simp [go_sem, (hk.cell h.lt hB.di).trans h.c4]
  · simp [go_sem, (hk.frozen h.lt hB.di).trans (h.fz i)]
  · rw [own_slice] at e
    cases e
    exact hgi e3
  · rintro rfl
    obtain ⟨q1, q2⟩ := (hL x hx).2 g e
    rcases hl with e2 | e2
    · exact q2 (.inr (.inl e2))
    · omega
theorem MidN2.done {w w5 w6 : World} {bb base : Nat} {vi vm v l1 l2 l3 : Value} {I : List (Value × Int)} {next m : Int} {gi ci gm cm : Nat} (h : MidN2 w w5 bb base vi vm v I m gi ci [v, l1, l2, l3]) (hB : NBook w bb base vi vm I next)
    (hvI : ∀ x ∈ I, ∀ g, x.1.ownBlock = some g → v.ownBlock ≠ some g) (hvB : ∀ g, v.ownBlock = some g → ¬ BookOwn bb vi vm g) (hk : Keeps (fun k => vm.ownBlock = some k) w5 w6)
    (ho : w6.ownsRow base 3 1 (.slice (some ⟨gm, 0, none⟩) (I.length + 4) cm) (I.length + 4) ((I.map fun x => Value.int .i64 x.2) ++ List.replicate 4 (.int .i64 m))) (hl : vm.ownBlock = some gm ∨ w5.heap.size ≤ gm) :
    NBook (w6.setCell ⟨bb, 1, none⟩ (.slice (some ⟨gm, 0, none⟩) (I.length + 4) cm)) bb base (.slice (some ⟨gi, 0, none⟩) (I.length + 4) ci) (.slice (some ⟨gm, 0, none⟩) (I.length + 4) cm) (I ++ [(v, m), (l1, m), (l2, m), (l3, m)]) m ∧
      Keeps (fun k => BookOwn bb vi vm k ∨ v.ownBlock = some k) w (w6.setCell ⟨bb, 1, none⟩ (.slice (some ⟨gm, 0, none⟩) (I.length + 4) cm)) := by
  have k7 : Keeps (fun k => k = bb) w6 (w6.setCell ⟨bb, 1, none⟩ (.slice (some ⟨gm, 0, none⟩) (I.length + 4) cm)) := Keeps.setCell (S := fun k => k = bb) (Keeps.refl _ w6) (.inl rfl) _
  have hgm : gm ≠ bb := by
    rcases hl with e | e
    · intro e2; subst e2; exact hB.dm e
    · have := h.lt; omega
  have hgi : gi ≠ bb := by
    rcases h.li with e | e
    · intro e2; subst e2; exact hB.di e
    · have := hB.lt; omega
  have hvg : ¬ vm.ownBlock = some gi := by
    rcases h.li with e | e
    · exact hB.dim gi e
    · intro e2; have := (hB.rm.lt gi e2).2; omega
  have him : gi ≠ gm := by
    rcases hl with e | e
    · intro e2; subst e2; exact hvg e
    · have := h.lg; omega
  have K : Keeps (fun k => BookOwn bb vi vm k ∨ v.ownBlock = some k) w (w6.setCell ⟨bb, 1, none⟩ (.slice (some ⟨gm, 0, none⟩) (I.length + 4) cm)) := (h.keeps.after hk fun i _ e => .inl (.inr (.inr e))).after k7 fun i _ e => .inl (.inl e)
  have e3 : w6.cell? ⟨bb, 1, none⟩ = some vm := (hk.cell h.lt hB.dm).trans h.c3
  refine ⟨?_, K⟩
  have hlen : (I ++ [(v, m), (l1, m), (l2, m), (l3, m)]).length = I.length + 4 := by simp
  have r := hB.more (v := v) (next' := m) (J := [(v, m), (l1, m), (l2, m), (l3, m)]) (gi := gi) (ci := ci) (gm := gm) (cm := cm) hvI hvB K ?_ ?_ ?_ ?_ ?_ (fun i => ?_) ?_ ?_ h.li (hl.imp id fun e => Nat.le_trans h.keeps.size e) him ?_
  · rw [hlen] at r; exact r
  · rw [hlen]; simp [go_sem, (hk.cell h.lt hB.dm).trans h.c2]
  · rw [hlen]; simp [go_sem, e3]
  · simp [go_sem, (hk.cell h.lt hB.dm).trans h.c4]
  · simp [go_sem, (hk.cell h.lt hB.dm).trans h.c0]
  · simp [go_sem, (hk.cell h.lt hB.dm).trans h.c1]
  · simp [go_sem, (hk.frozen h.lt hB.dm).trans (h.fz i)]
  · rw [hlen, List.map_append]
    exact ownsRow_keeps (ownsRow_keeps h.ri hk fun g e e2 => hvg (by rw [own_slice] at e; cases e; exact e2)) k7 fun g e e2 => hgi (by rw [own_slice] at e; cases e; exact e2)
  · rw [hlen, List.map_append]
    exact ownsRow_keeps ho k7 fun g e e2 => hgm (by rw [own_slice] at e; cases e; exact e2)
  · intro x hx
    obtain ⟨y, hy, e⟩ : ∃ y ∈ [v, l1, l2, l3], x = (y, m) := by
      simp only [List.mem_cons, List.not_mem_nil, or_false] at hx
      rcases hx with e | e | e | e <;> exact ⟨_, by simp, e⟩
    subst e
    obtain ⟨q1, q2⟩ := h.ln y hy
    have q3 := (q1.keeps hk fun g _ _ h3 e => h3 (.inr (.inr e))).keeps k7 fun g _ _ h3 e => h3 (.inl e)
    refine ⟨q3.1, fun g e => ⟨(q3.2 g e).1, fun e2 => (q3.2 g e).2 (.inl e2), q2 g e, ?_⟩⟩
    rintro rfl
    rcases hl with e2 | e2
    · exact (q3.2 g e).2 (.inr (.inr e2))
    · have := (q1.2 g e).1
      omega
theorem nowns_shape {w : World} {base size n : Nat} {e : TypeId} {v : Value} {xs : List Value} (h : w.ownsRow base e size v n xs) : ∃ ao cap, v = .slice ao n cap := by
  rcases h.2 with ⟨rfl, rfl⟩ | ⟨g, cap, cur, rfl, _⟩
  · exact ⟨_, _, rfl⟩
  · exact ⟨_, _, rfl⟩
/-- what ownsNodes leaves -/
structure OwnsPostN (w : World) (bb base : Nat) (vi vm v : Value) (I : List (Value × Int)) (next : Int) (w' : World) : Prop where
  book : ∃ vi' vm' l1 l2 l3, NBook w' bb base vi' vm' (I ++ [(v, next - 1), (l1, next - 1), (l2, next - 1), (l3, next - 1)]) (next - 1)
  keeps : Keeps (fun k => BookOwn bb vi vm k ∨ v.ownBlock = some k) w w'
theorem news4 {W : World} {b : Nat} {t : TypeId} {x : Value} (hb : W.heap.size = b) : ∀ j u, (List.replicate 4 x)[j]? = some u → (W.alloc (.cells #[x, x, x, x] t)).cell? ((⟨b, 0, none⟩ : Addr).add j) = some u := by
  subst hb
  exact World.news_of_block (cs := #[x, x, x, x]) (t := t) (fr := (0, 0)) (heap_alloc_new W _)
set_option maxHeartbeats 8000000 in
set_option maxRecDepth 100000 in
theorem ownsNodes_any (w : World) (bb base : Nat) (vi vm v : Value) (I : List (Value × Int)) (next : Int) (n : Nat) (xs : List Value) (hB : NBook w bb base vi vm I next) (hv : w.ownsRow base 42 6 v n xs) (hn : n ≤ 1000) (hI : I.length ≤ 100000000000) (hx1 : -1000000000000 ≤ next) (hx2 : next ≤ 0)
    (hvI : ∀ x ∈ I, ∀ g, x.1.ownBlock = some g → v.ownBlock ≠ some g) (hvB : ∀ g, v.ownBlock = some g → ¬ BookOwn bb vi vm g) :
    Calls Tryz.prog 9 #[.pointer (some ⟨bb, 0, none⟩), v] w fun e w' => e = .returned (.tuple #[]) ∧ OwnsPostN w bb base vi vm v I next w' := by
  obtain ⟨i0, hi, hz0, hz1, hz2⟩ := ninfo_parts nInfo
  have HI : Hid (i0.zero = some (.int .i64 0) ∧ i0.size = 1 ∧ i0.bytes = 8 ∧ Tryz.prog.info? 3 = some i0) := ⟨hz0, hz1, hz2, hi⟩
  clear hi hz0 hz1 hz2
  obtain ⟨i1, hi, hz0, hz1, hz2⟩ := ninfo_parts nInfos
  have HJ : Hid (i1.zero = some (.slice none 0 0) ∧ i1.size = 1 ∧ i1.bytes = 24 ∧ Tryz.prog.info? 32 = some i1) := ⟨hz0, hz1, hz2, hi⟩
  clear hi hz0 hz1 hz2
  obtain ⟨i2, hi, hz0, hz1, hz2⟩ := ninfo_parts nInfoNd
  have HK : Hid (i2.zero = some (.agg #[.int .i64 0, .int .i64 0, .int .i64 0, .int .i64 0, .int .i64 0, .int .i64 0]) ∧ i2.size = 6 ∧ i2.bytes = 48 ∧ Tryz.prog.info? 42 = some i2) := ⟨hz0, hz1, hz2, hi⟩
  clear hi hz0 hz1 hz2
  obtain ⟨ao, vc, rfl⟩ := nowns_shape hv
  have HB : Hid (NBook w bb base vi vm I next) := hB
  have HV : Hid (w.ownsRow base 42 6 (.slice ao n vc) n xs) := hv
  have HD : Hid ((∀ x ∈ I, ∀ g, x.1.ownBlock = some g → (Value.slice ao n vc).ownBlock ≠ some g) ∧ (∀ g, (Value.slice ao n vc).ownBlock = some g → ¬ BookOwn bb vi vm g)) := ⟨hvI, hvB⟩
  have HLEN : Hid (xs.length = n * 6) := hv.1
  have c4 := hB.c4
  have f4 := hB.fz 4
  have hbl := hB.lt
  clear hB hv hvI hvB
  go_enter Tryz.func9, Tryz.ntmps9
  go_upto_region 1 with fail
  go_cut [4] from 16 to 24 (fun p wx => p = .pointer (some ⟨w.heap.size, 0, none⟩) ∧ MidN w wx bb base vi vm (.slice ao n vc) I (next - 1) ∧ wx.ownsRow base 42 6 (.slice ao n vc) n xs ∧ XAt wx w.heap.size (next - 1))
  case first =>
    go_region_with (fail)
    all_goals
      go_wp2_with fail
      go_meet
      case rel =>
        have hkb : Keeps (fun k => k = bb) w (w.setCell ⟨bb, 4, none⟩ (.int .i64 (next - 1))) := Keeps.setCell (S := fun k => k = bb) (Keeps.refl _ w) (.inl rfl) _
        refine ⟨rfl, (MidN.start HB.out (next - 1)).next HD.out.2 (Keeps.drew ((Keeps.refl _ _).alloc _)), ?_, ⟨by simp, by simp [go_sem], by simp [go_sem], by simp [go_sem], by simp [go_sem], by simp [go_sem], by simp [go_sem]⟩⟩
        exact World.ownsRow.drew ((ownsRow_keeps HV.out hkb fun g e e2 => HD.out.2 g e (.inl e2)).alloc _)
  case rest =>
    obtain ⟨rfl, hM0, hR0, hX0⟩ := hcut
    have HM0 : Hid (MidN w wc bb base vi vm (.slice ao n vc) I (next - 1)) := hM0
    have HR0 : Hid (wc.ownsRow base 42 6 (.slice ao n vc) n xs) := hR0
    have HX0 : Hid (XAt wc w.heap.size (next - 1)) := hX0
    clear hM0 hR0 hX0 c4 f4
    go_wp2
    go_loopw [5] (fun iv wr => ∃ k : Nat, iv = .int .i64 (k : Int) ∧ k ≤ n ∧ wr.ownsRow base 42 6 (.slice ao n vc) n (markN (next - 1) k xs) ∧ MidN w wr bb base vi vm (.slice ao n vc) I (next - 1) ∧ XAt wr w.heap.size (next - 1)) (fun iv _ => n - (intOf iv).toNat)
    case atStart => exact ⟨0, rfl, Nat.zero_le _, by rw [markN_zero]; exact HR0.out, HM0.out, HX0.out⟩
    case round =>
      clear HM0 HR0 HX0
      obtain ⟨k, rfl, hk, hR, hM, hX⟩ := hrel
      have HR : Hid (wr.ownsRow base 42 6 (.slice ao n vc) n (markN (next - 1) k xs)) := hR
      have HM : Hid (MidN w wr bb base vi vm (.slice ao n vc) I (next - 1)) := hM
      have HX : Hid (XAt wr w.heap.size (next - 1)) := hX
      have HXO : Hid (¬ (Value.slice ao n vc).ownBlock = some w.heap.size) := fun e => by have := (HV.out.lt _ e).2; omega
      clear hR hM hX
      by_cases hlt : k < n
      · obtain ⟨g, cap, hve, hg1, hg2⟩ := HR.out.form (by omega)
        cases hve
        have hfz := HR.out.frozenAt
        have hcell : ∀ j, j < n * 6 → ∃ u, wr.cell? ⟨g, j, none⟩ = some u := fun j hj => by
          rw [HR.out.cellAt j hj]
          have := HR.out.1
          exact ⟨_, List.getElem?_eq_getElem (by omega)⟩
        obtain ⟨u0, e0⟩ := hcell (k * 6) (by omega)
        obtain ⟨u1, e1⟩ := hcell (k * 6 + 1) (by omega)
        obtain ⟨u2, e2⟩ := hcell (k * 6 + 2) (by omega)
        obtain ⟨u3, e3⟩ := hcell (k * 6 + 3) (by omega)
        obtain ⟨u4, e4⟩ := hcell (k * 6 + 4) (by omega)
        obtain ⟨u5, e5⟩ := hcell (k * 6 + 5) (by omega)
        obtain ⟨x0, xc0, xc1, xc2, xc3, xc4, xc5⟩ := HX.out
        clear hcell
        go_wp2
        have hK6 := (((((((Keeps.refl (fun k => (Value.slice (some ⟨g, 0, none⟩) n vc).ownBlock = some k) wr).setCell (p := ⟨g, k * 6, none⟩) (.inl rfl) (.int .i64 (next - 1))).setCell (p := ⟨g, k * 6 + 1, none⟩) (.inl rfl) (.int .i64 0)).setCell (p := ⟨g, k * 6 + 2, none⟩) (.inl rfl) (.int .i64 0)).setCell (p := ⟨g, k * 6 + 3, none⟩) (.inl rfl) (.int .i64 (next - 1))).setCell (p := ⟨g, k * 6 + 4, none⟩) (.inl rfl) (.int .i64 0)).setCell (p := ⟨g, k * 6 + 5, none⟩) (.inl rfl) (.int .i64 0))
        refine ⟨⟨k + 1, by go_num, by omega, ?_, HM.out.next HD.out.2 hK6, HX.out.keeps hK6 HXO.out⟩, by simp [intOf]; omega⟩
        rw [← markN_set hlt HLEN.out]
        exact ((((((HR.out.stored (k * 6) (.int .i64 (next - 1))).1.stored (k * 6 + 1) (.int .i64 0)).1.stored (k * 6 + 2) (.int .i64 0)).1.stored (k * 6 + 3) (.int .i64 (next - 1))).1.stored (k * 6 + 4) (.int .i64 0)).1.stored (k * 6 + 5) (.int .i64 0)).1
      · have hke : k = n := by omega
        subst hke
        obtain ⟨k', hk'⟩ : ∃ k', k' = k := ⟨_, rfl⟩
        subst hk'
        have HA : Hid (wr.ownsRow base 42 6 (.slice ao k' vc) k' (patL (next - 1) k')) := by
          have := HR.out
          rw [markN_all HLEN.out] at this
          exact this
        have hb0 : base ≤ wr.heap.size := by have := HB.out.lo; have := HM.out.lt; omega
        clear HR hlt hk
        have HBO : Hid (∀ g, BookOwn bb vi vm g → g < wr.heap.size) := fun g e => Nat.lt_of_lt_of_le (HB.out.own_lt g e).2 HM.out.keeps.size
        have HL0 : Hid (LOkN wr bb vi vm (.slice ao k' vc) (next - 1)) := ⟨MarkedN.of_owns HA.out (by omega), fun g e => ⟨(HA.out.lt g e).2, HD.out.2 g e⟩⟩
        obtain ⟨x0, xc0, xc1, xc2, xc3, xc4, xc5⟩ := HX.out
        have alx := al1 x0
        go_wp2_with (at_builtin; refine wpList_append_pat _ rfl _ _ 32 rfl base 42 i2 _ 6 48 nUnderNds HK.out.2.2.2 HK.out.1 HK.out.2.1 HK.out.2.2.1 rfl (by decide) _ _ _ rfl (HA.out.alloc _) ⟨wr.heap.size, 0, none⟩ 1 1 (patL (next - 1) 1) rfl (patL_len _ _) ?a1 ?a2 (patN (next - 1)) (patL_news _ _ _) (by decide) ?a3 ?a4 ?a5 ?_)
        case a1 =>
          rw [patL_one]
          intro j u hj
          match j, hj with
          | 0, hj => simp at hj; subst hj; simp [Addr.add, go_sem]
          | 1, hj => simp at hj; subst hj; simp [Addr.add, go_sem]
          | 2, hj => simp at hj; subst hj; simp [Addr.add, go_sem]
          | 3, hj => simp at hj; subst hj; simp [Addr.add, go_sem]
          | 4, hj => simp at hj; subst hj; simp [Addr.add, go_sem]
          | 5, hj => simp at hj; subst hj; simp [Addr.add, go_sem]
          | j + 6, hj => simp at hj
        case a2 =>
          intro u hu
          obtain ⟨q, _, rfl⟩ := List.mem_map.1 hu
          rfl
        case a3 => unfold maxLen; omega
        case a4 => omega
        case a5 => simp; omega
        intro g1 q1 w1 ho1 hg1 hl1 hk1 hh1
        obtain ⟨hM1, hL1, hs1, hc1⟩ := HM.out.append HD.out.2 HBO.out (Bl.more (Bl.refl _) _) (by omega) ho1 hg1 (hl1.imp id fun e => by omega) hh1
        have HX1 : Hid (XAt w1 w.heap.size (next - 1)) := (HX.out.keeps (S := fun _ => False) (Keeps.of_below (Bl.more (Bl.refl _) _)) id).keeps (Keeps.of_grown (S := fun k => (Value.slice ao k' vc).ownBlock = some k) hg1 fun j e => e) (HXO.out)
        have HM1 : Hid (MidN w w1 bb base vi vm (.slice ao k' vc) I (next - 1)) := hM1
        have HA1 : Hid (w1.ownsRow base 42 6 (.slice ao k' vc) k' (patL (next - 1) k')) := hk1
        have HBO1 : Hid (∀ g, BookOwn bb vi vm g → g < w1.heap.size) := fun g e => Nat.lt_of_lt_of_le (HBO.out g e) hs1
        have HN1 : Hid (LOkN w1 bb vi vm (.slice (some ⟨g1, 0, none⟩) (k' + 1) q1) (next - 1)) := hL1
        have HL01 : Hid (LOkN w1 bb vi vm (.slice ao k' vc) (next - 1)) := HL0.out.holds hs1 hc1
        have hb1 : base ≤ w1.heap.size := Nat.le_trans hb0 hs1
        clear hM1 hL1 hs1 hc1 ho1 hg1 hl1 hk1 hh1 x0 xc0 xc1 xc2 xc3 xc4 xc5 alx
        obtain ⟨x0, xc0, xc1, xc2, xc3, xc4, xc5⟩ := HX1.out
        have alx := al1 x0
        go_wp2_with (at_builtin; refine wpList_append_pat _ rfl _ _ 32 rfl base 42 i2 _ 6 48 nUnderNds HK.out.2.2.2 HK.out.1 HK.out.2.1 HK.out.2.2.1 rfl (by decide) _ _ _ rfl (HA1.out.alloc _) ⟨w1.heap.size, 0, none⟩ 2 2 (patL (next - 1) 2) rfl (patL_len _ _) ?b1 ?b2 (patN (next - 1)) (patL_news _ _ _) (by decide) ?b3 ?b4 ?b5 ?_)
        case b1 =>
          rw [patL_two]
          intro j u hj
          match j, hj with
          | 0, hj => simp at hj; subst hj; simp [Addr.add, go_sem]
          | 1, hj => simp at hj; subst hj; simp [Addr.add, go_sem]
          | 2, hj => simp at hj; subst hj; simp [Addr.add, go_sem]
          | 3, hj => simp at hj; subst hj; simp [Addr.add, go_sem]
          | 4, hj => simp at hj; subst hj; simp [Addr.add, go_sem]
          | 5, hj => simp at hj; subst hj; simp [Addr.add, go_sem]
          | 6, hj => simp at hj; subst hj; simp [Addr.add, go_sem]
          | 7, hj => simp at hj; subst hj; simp [Addr.add, go_sem]
          | 8, hj => simp at hj; subst hj; simp [Addr.add, go_sem]
          | 9, hj => simp at hj; subst hj; simp [Addr.add, go_sem]
          | 10, hj => simp at hj; subst hj; simp [Addr.add, go_sem]
          | 11, hj => simp at hj; subst hj; simp [Addr.add, go_sem]
          | j + 12, hj => simp at hj
        case b2 =>
          intro u hu
          obtain ⟨q, _, rfl⟩ := List.mem_map.1 hu
          rfl
        case b3 => unfold maxLen; omega
        case b4 => omega
        case b5 => simp; omega
        intro g2 q2 w2 ho2 hg2 hl2 hk2 hh2
        obtain ⟨hM2, hL2, hs2, hc2⟩ := HM1.out.append HD.out.2 HBO1.out (Bl.more (Bl.refl _) _) (by omega) ho2 hg2 (hl2.imp id fun e => by omega) hh2
        have HX2 : Hid (XAt w2 w.heap.size (next - 1)) := (HX1.out.keeps (S := fun _ => False) (Keeps.of_below (Bl.more (Bl.refl _) _)) id).keeps (Keeps.of_grown (S := fun k => (Value.slice ao k' vc).ownBlock = some k) hg2 fun j e => e) (HXO.out)
        have HM2 : Hid (MidN w w2 bb base vi vm (.slice ao k' vc) I (next - 1)) := hM2
        have HA2 : Hid (w2.ownsRow base 42 6 (.slice ao k' vc) k' (patL (next - 1) k')) := hk2
        have HBO2 : Hid (∀ g, BookOwn bb vi vm g → g < w2.heap.size) := fun g e => Nat.lt_of_lt_of_le (HBO1.out g e) hs2
        have HN2 : Hid (LOkN w2 bb vi vm (.slice (some ⟨g2, 0, none⟩) (k' + 2) q2) (next - 1)) := hL2
        have HL02 : Hid (LOkN w2 bb vi vm (.slice ao k' vc) (next - 1)) := HL01.out.holds hs2 hc2
        have HN12 : Hid (LOkN w2 bb vi vm (.slice (some ⟨g1, 0, none⟩) (k' + 1) q1) (next - 1)) := HN1.out.holds hs2 hc2
        have hb2 : base ≤ w2.heap.size := Nat.le_trans hb1 hs2
        clear hM2 hL2 hs2 hc2 ho2 hg2 hl2 hk2 hh2 x0 xc0 xc1 xc2 xc3 xc4 xc5 alx
        obtain ⟨x0, xc0, xc1, xc2, xc3, xc4, xc5⟩ := HX2.out
        have alx := al1 x0
        go_wp2_with (at_builtin; refine wpList_append_pat _ rfl _ _ 32 rfl base 42 i2 _ 6 48 nUnderNds HK.out.2.2.2 HK.out.1 HK.out.2.1 HK.out.2.2.1 rfl (by decide) _ _ _ rfl (HA2.out.alloc _) ⟨w2.heap.size, 0, none⟩ 3 3 (patL (next - 1) 3) rfl (patL_len _ _) ?d1 ?d2 (patN (next - 1)) (patL_news _ _ _) (by decide) ?d3 ?d4 ?d5 ?_)
        case d1 =>
          rw [patL_three]
          intro j u hj
          match j, hj with
          | 0, hj => simp at hj; subst hj; simp [Addr.add, go_sem]
          | 1, hj => simp at hj; subst hj; simp [Addr.add, go_sem]
          | 2, hj => simp at hj; subst hj; simp [Addr.add, go_sem]
          | 3, hj => simp at hj; subst hj; simp [Addr.add, go_sem]
          | 4, hj => simp at hj; subst hj; simp [Addr.add, go_sem]
          | 5, hj => simp at hj; subst hj; simp [Addr.add, go_sem]
          | 6, hj => simp at hj; subst hj; simp [Addr.add, go_sem]
          | 7, hj => simp at hj; subst hj; simp [Addr.add, go_sem]
          | 8, hj => simp at hj; subst hj; simp [Addr.add, go_sem]
          | 9, hj => simp at hj; subst hj; simp [Addr.add, go_sem]
          | 10, hj => simp at hj; subst hj; simp [Addr.add, go_sem]
          | 11, hj => simp at hj; subst hj; simp [Addr.add, go_sem]
          | 12, hj => simp at hj; subst hj; simp [Addr.add, go_sem]
          | 13, hj => simp at hj; subst hj; simp [Addr.add, go_sem]
          | 14, hj => simp at hj; subst hj; simp [Addr.add, go_sem]
          | 15, hj => simp at hj; subst hj; simp [Addr.add, go_sem]
          | 16, hj => simp at hj; subst hj; simp [Addr.add, go_sem]
          | 17, hj => simp at hj; subst hj; simp [Addr.add, go_sem]
          | j + 18, hj => simp at hj
        case d2 =>
          intro u hu
          obtain ⟨q, _, rfl⟩ := List.mem_map.1 hu
          rfl
        case d3 => unfold maxLen; omega
        case d4 => omega
        case d5 => simp; omega
        intro g3 q3 w3 ho3 hg3 hl3 hk3 hh3
        obtain ⟨hM3, hL3, hs3, hc3⟩ := HM2.out.append HD.out.2 HBO2.out (Bl.more (Bl.refl _) _) (by omega) ho3 hg3 (hl3.imp id fun e => by omega) hh3
        have HX3 : Hid (XAt w3 w.heap.size (next - 1)) := (HX2.out.keeps (S := fun _ => False) (Keeps.of_below (Bl.more (Bl.refl _) _)) id).keeps (Keeps.of_grown (S := fun k => (Value.slice ao k' vc).ownBlock = some k) hg3 fun j e => e) (HXO.out)
        have HM3 : Hid (MidN w w3 bb base vi vm (.slice ao k' vc) I (next - 1)) := hM3
        have HA3 : Hid (w3.ownsRow base 42 6 (.slice ao k' vc) k' (patL (next - 1) k')) := hk3
        have HBO3 : Hid (∀ g, BookOwn bb vi vm g → g < w3.heap.size) := fun g e => Nat.lt_of_lt_of_le (HBO2.out g e) hs3
        have HN3 : Hid (LOkN w3 bb vi vm (.slice (some ⟨g3, 0, none⟩) (k' + 3) q3) (next - 1)) := hL3
        have HL03 : Hid (LOkN w3 bb vi vm (.slice ao k' vc) (next - 1)) := HL02.out.holds hs3 hc3
        have HN13 : Hid (LOkN w3 bb vi vm (.slice (some ⟨g1, 0, none⟩) (k' + 1) q1) (next - 1)) := HN12.out.holds hs3 hc3
        have HN23 : Hid (LOkN w3 bb vi vm (.slice (some ⟨g2, 0, none⟩) (k' + 2) q2) (next - 1)) := HN2.out.holds hs3 hc3
        have hb3 : base ≤ w3.heap.size := Nat.le_trans hb2 hs3
        clear hM3 hL3 hs3 hc3 ho3 hg3 hl3 hk3 hh3 x0 xc0 xc1 xc2 xc3 xc4 xc5 alx
        have c2 := HM3.out.c2
        have l3 := HM3.out.lt
        have a3 := al1 l3
        go_wp2_with (at_builtin; refine wpList_append_all _ rfl _ _ 24 rfl base 32 i1 _ 1 24 nUnderNdss HJ.out.2.2.2 HJ.out.1 HJ.out.2.1 HJ.out.2.2.1 rfl (by decide) _ _ _ rfl (HM3.out.ri.alloc _) ⟨w3.heap.size, 0, none⟩ 4 4 [.slice ao k' vc, .slice (some ⟨g1, 0, none⟩) (k' + 1) q1, .slice (some ⟨g2, 0, none⟩) (k' + 2) q2, .slice (some ⟨g3, 0, none⟩) (k' + 3) q3] rfl rfl ?f1 ?f2 (by decide) ?f3 ?f4 ?f5 ?_)
        case f1 =>
          intro j u hj
          match j, hj with
          | 0, hj => simp at hj; subst hj; simp [Addr.add, go_sem]
          | 1, hj => simp at hj; subst hj; simp [Addr.add, go_sem]
          | 2, hj => simp at hj; subst hj; simp [Addr.add, go_sem]
          | 3, hj => simp at hj; subst hj; simp [Addr.add, go_sem]
          | j + 4, hj => simp at hj
        case f2 => intro u hu; simp at hu; rcases hu with rfl | rfl | rfl | rfl <;> rfl
        case f3 => unfold maxLen; omega
        case f4 => omega
        case f5 => simp; omega
        intro gi ci w4 ho4 hg4 hl4 hk4
        have hk4' : Keeps (fun k => vi.ownBlock = some k) w3 w4 := (Keeps.alloc (Keeps.refl _ _) _).after (Keeps.of_grown hg4 fun j e => e) fun i _ e => e
        have h2 := HM3.out.two HB.out hk4' ho4 (hl4.imp id fun e => by omega) (fun x hx => by
          simp only [List.mem_cons, List.not_mem_nil, or_false] at hx
          rcases hx with rfl | rfl | rfl | rfl
          · exact HL03.out
          · exact HN13.out
          · exact HN23.out
          · exact HN3.out)
        have f4 : w4.frozen? ⟨bb, 0, none⟩ = false := (hk4'.frozen HM3.out.lt HB.out.di).trans (HM3.out.fz 0)
        have e4 : w4.cell? ⟨bb, 0, none⟩ = some vi := (hk4'.cell HM3.out.lt HB.out.di).trans c2
        have e5 : w4.cell? ⟨bb, 1, none⟩ = some vm := (hk4'.cell HM3.out.lt HB.out.di).trans HM3.out.c3
        have e6 : w4.cell? ⟨bb, 4, none⟩ = some (.int .i64 (next - 1)) := (hk4'.cell HM3.out.lt HB.out.di).trans HM3.out.c4
        have l4 : bb < w4.heap.size := Nat.lt_of_lt_of_le l3 hk4'.size
        have hb4 : base ≤ w4.heap.size := Nat.le_trans hb3 hk4'.size
        have H2 : Hid (MidN2 w (w4.setCell ⟨bb, 0, none⟩ (.slice (some ⟨gi, 0, none⟩) (I.length + 4) ci)) bb base vi vm (.slice ao k' vc) I (next - 1) gi ci [.slice ao k' vc, .slice (some ⟨g1, 0, none⟩) (k' + 1) q1, .slice (some ⟨g2, 0, none⟩) (k' + 2) q2, .slice (some ⟨g3, 0, none⟩) (k' + 3) q3]) := h2
        have HRM : Hid ((w4.setCell ⟨bb, 0, none⟩ (.slice (some ⟨gi, 0, none⟩) (I.length + 4) ci)).ownsRow base 3 1 vm I.length (I.map fun x => .int .i64 x.2)) := h2.rm
        have hne5 : vm.ownBlock ≠ some bb := HB.out.dm
        clear h2 ho4 hg4 hl4 hk4 hk4' c2 l3 a3
        go_wp2
        clear f4 e4 e5 e6 l4
        generalize (w4.setCell ⟨bb, 0, none⟩ (.slice (some ⟨gi, 0, none⟩) (I.length + 4) ci)) = wS at *
        have e5 := H2.out.c3
        have e6 := H2.out.c4
        have l5 := H2.out.lt
        have hbS : base ≤ wS.heap.size := Nat.le_trans HB.out.lo (Nat.le_of_lt l5)
        have a5 := al1 l5
        refine wp_region_held_drew (S := fun w' => w'.cell? ⟨bb, 4, none⟩ = some (.int .i64 (next - 1))) (by kernel_rfl) (by simpa using e6) (fun hHeld => ?_)
        refine wpAnyH_take (i := 0) (v := ?tv1) rfl (by kernel_rfl) (by kernel_rfl) (by kernel_rfl) (fun _ _ _ h => h) (Or.inl ⟨by rfl, ?ty1⟩) (by assumption) ?tr1
        case ty1 => (intro w hSw; (try dsimp only at hSw); first | (go_simp; done) | (go_simp; with_reducible rfl))
        try simp only [Act.put]
        refine wpAnyH_take (i := 1) (v := ?tv2) rfl (by kernel_rfl) (by kernel_rfl) (by kernel_rfl) (fun _ _ _ h => h) (Or.inl ⟨by rfl, ?ty2⟩) (by assumption) ?tr2
        case ty2 => (intro w hSw; (try dsimp only at hSw); first | (go_simp; done) | (go_simp; with_reducible rfl))
        try simp only [Act.put]
        refine wpAnyH_take (i := 2) (v := ?tv3) rfl (by kernel_rfl) (by kernel_rfl) (by kernel_rfl) (fun _ _ _ h => h) (Or.inl ⟨by rfl, ?ty3⟩) (by assumption) ?tr3
        case ty3 => (intro w hSw; (try dsimp only at hSw); first | (go_simp; done) | (go_simp; with_reducible rfl))
        try simp only [Act.put]
        refine wpAnyH_take (i := 3) (v := ?tv4) rfl (by kernel_rfl) (by kernel_rfl) (by kernel_rfl) (fun _ _ _ h => h) (Or.inl ⟨by rfl, ?ty4⟩) (by assumption) ?tr4
        case ty4 => (intro w hSw; (try dsimp only at hSw); first | (go_simp; done) | (go_simp; with_reducible rfl))
        try simp only [Act.put]
        refine wpAnyH_take (i := 5) (v := ?tv5) rfl (by kernel_rfl) (by kernel_rfl) (by kernel_rfl) (fun _ _ _ h => h) (Or.inl ⟨by rfl, ?ty5⟩) (by assumption) ?tr5
        case ty5 => (intro w hSw; (try dsimp only at hSw); first | (go_simp; done) | (go_simp; with_reducible rfl))
        try simp only [Act.put]
        refine wpAnyH_take (i := 6) (v := ?tv6) rfl (by kernel_rfl) (by kernel_rfl) (by kernel_rfl) (fun _ _ _ h => h) (Or.inl ⟨by rfl, ?ty6⟩) (by assumption) ?tr6
        case ty6 => (intro w hSw; (try dsimp only at hSw); first | (go_simp; done) | (go_simp; with_reducible rfl))
        try simp only [Act.put]
        refine wpAnyH_take (i := 7) (v := ?tv7) rfl (by kernel_rfl) (by kernel_rfl) (by kernel_rfl) (fun _ _ _ h => h) (Or.inl ⟨by rfl, ?ty7⟩) (by assumption) ?tr7
        case ty7 => (intro w hSw; (try dsimp only at hSw); first | (go_simp; done) | (go_simp; with_reducible rfl))
        try simp only [Act.put]
        refine wpAnyH_take (i := 8) (v := ?tv8) rfl (by kernel_rfl) (by kernel_rfl) (by kernel_rfl) (fun _ _ _ h => h) (Or.inl ⟨by rfl, ?ty8⟩) (by assumption) ?tr8
        case ty8 => (intro w hSw; (try dsimp only at hSw); first | (go_simp; done) | (go_simp; with_reducible rfl))
        try simp only [Act.put]
        refine wpAnyH_take (i := 9) (v := ?tv9) rfl (by kernel_rfl) (by kernel_rfl) (by kernel_rfl) (fun _ _ _ h => h) (Or.inl ⟨by rfl, ?ty9⟩) (by assumption) ?tr9
        case ty9 => (intro w hSw; (try dsimp only at hSw); first | (go_simp; done) | (go_simp; with_reducible rfl))
        try simp only [Act.put]
        refine wpAnyH_take (i := 10) (v := ?tv10) rfl (by kernel_rfl) (by kernel_rfl) (by kernel_rfl) (fun _ _ _ h => h) (Or.inl ⟨by rfl, ?ty10⟩) (by assumption) ?tr10
        case ty10 => (intro w hSw; (try dsimp only at hSw); first | (go_simp; done) | (go_simp; with_reducible rfl))
        try simp only [Act.put]
        refine wpAnyH_take (i := 11) (v := ?tv11) rfl (by kernel_rfl) (by kernel_rfl) (by kernel_rfl) (fun _ _ _ h => h) (Or.inl ⟨by rfl, ?ty11⟩) (by assumption) ?tr11
        case ty11 => (intro w hSw; (try dsimp only at hSw); first | (go_simp; done) | (go_simp; with_reducible rfl))
        try simp only [Act.put]
        refine wpAnyH_take (i := 12) (v := ?tv12) rfl (by kernel_rfl) (by kernel_rfl) (by kernel_rfl) (fun _ _ _ h => h) (Or.inl ⟨by rfl, ?ty12⟩) (by assumption) ?tr12
        case ty12 => (intro w hSw; (try dsimp only at hSw); first | (go_simp; done) | (go_simp; with_reducible rfl))
        try simp only [Act.put]
        refine wpAnyH_take (i := 13) (v := ?tv13) rfl (by kernel_rfl) (by kernel_rfl) (by kernel_rfl) (fun _ _ _ h => h) (Or.inl ⟨by rfl, ?ty13⟩) (by assumption) ?tr13
        case ty13 => (intro w hSw; (try dsimp only at hSw); first | (go_simp; done) | (go_simp; with_reducible rfl))
        try simp only [Act.put]
        refine wpAnyH_take (i := 14) (v := ?tv14) rfl (by kernel_rfl) (by kernel_rfl) (by kernel_rfl) (fun _ _ _ h => h) (Or.inl ⟨by rfl, ?ty14⟩) (by assumption) ?tr14
        case ty14 => (intro w hSw; (try dsimp only at hSw); first | (go_simp; done) | (go_simp; with_reducible rfl))
        try simp only [Act.put]
        refine wpAnyH_take (i := 15) (v := ?tv15) rfl (by kernel_rfl) (by kernel_rfl) (by kernel_rfl) (fun _ _ _ h => h) (Or.inl ⟨by rfl, ?ty15⟩) (by assumption) ?tr15
        case ty15 => (intro w hSw; (try dsimp only at hSw); first | (go_simp; done) | (go_simp; with_reducible rfl))
        try simp only [Act.put]
        refine wpAnyH_take (i := 16) (v := ?tv16) rfl (by kernel_rfl) (by kernel_rfl) (by kernel_rfl) (fun _ _ _ h => h) (Or.inl ⟨by rfl, ?ty16⟩) (by assumption) ?tr16
        case ty16 => (intro w hSw; (try dsimp only at hSw); first | (go_simp; done) | (go_simp; with_reducible rfl))
        try simp only [Act.put]
        refine wpAnyH_take (i := 17) (v := ?tv17) rfl (by kernel_rfl) (by kernel_rfl) (by kernel_rfl) (fun _ _ _ h => h) (Or.inl ⟨by rfl, ?ty17⟩) (by assumption) ?tr17
        case ty17 => (intro w hSw; (try dsimp only at hSw); first | (go_simp; done) | (go_simp; with_reducible rfl))
        try simp only [Act.put]
        refine wpAnyH_take (i := 18) (v := ?tv18) rfl (by kernel_rfl) (by kernel_rfl) (by kernel_rfl) (fun _ _ _ h => h) (Or.inl ⟨by rfl, ?ty18⟩) (by assumption) ?tr18
        case ty18 => (intro w hSw; (try dsimp only at hSw); first | (go_simp; done) | (go_simp; with_reducible rfl))
        try simp only [Act.put]
        refine wpAnyH_take (i := 19) (v := ?tv19) rfl (by kernel_rfl) (by kernel_rfl) (by kernel_rfl) (fun _ _ _ h => h) (Or.inl ⟨by rfl, ?ty19⟩) (by assumption) ?tr19
        case ty19 => (intro w hSw; (try dsimp only at hSw); first | (go_simp; done) | (go_simp; with_reducible rfl))
        try simp only [Act.put]
        refine wpAnyH_take (i := 20) (v := ?tv20) rfl (by kernel_rfl) (by kernel_rfl) (by kernel_rfl) (fun _ _ _ h => h) (Or.inl ⟨by rfl, ?ty20⟩) (by assumption) ?tr20
        case ty20 => (intro w hSw; (try dsimp only at hSw); first | (go_simp; done) | (go_simp; with_reducible rfl))
        try simp only [Act.put]
        refine wpAnyH_ready (rs := [4, 21]) (by kernel_rfl) (by simp) ?_
        refine AllReadyH.cons rfl (fun K hK => ?_) (AllReadyH.cons rfl (fun K hK => ?_) AllReadyH.nil)
        · go_simp
          refine hK.out _ _ (by first | assumption | (simp [go_sem, a5, e6]; done)) (fun hHeld => ?_)
          clear hK K
          try simp only [Act.put]
          refine wpAnyH_ready (rs := [21]) (by kernel_rfl) (by simp) ?_
          refine AllReadyH.cons rfl (fun K hK => ?_) AllReadyH.nil
          go_simp
          refine hK.out _ _ (by first | assumption | (simp [go_sem, a5, e6]; done)) (fun hHeld => ?_)
          clear hK K
          try simp only [Act.put]
          refine wpAnyH_ready (rs := [22]) (by kernel_rfl) (by simp) ?_
          refine AllReadyH.cons rfl (fun K hK => ?_) AllReadyH.nil
          refine step_append_lies _ (by rfl) _ _ _ (by rfl) base 3 i0 _ 1 8 nUnderInts HI.out.2.2.2 HI.out.1 HI.out.2.1 HI.out.2.2.1 rfl (by omega) vm I.length (I.map fun x => .int .i64 x.2) (by rfl) (by first | exact HRM.out.alloc _ | exact (HRM.out.alloc _).drew) ⟨wS.heap.size, 0, none⟩ 4 4 (List.replicate 4 (.int .i64 (next - 1))) (by rfl) (by rfl) (by exact news4 (W := wS) (t := 3) rfl) (by simp [Value.oneCell']) (by omega) (by unfold maxLen; omega) (by omega) (by simp; omega) (wS.heap.size + 1) (by simp) ?_
          intro gm cm w5 ho5 hg5 hl5 hlt5
          have hk5 : Keeps (fun k => vm.ownBlock = some k) wS w5 := (Keeps.alloc (Keeps.drew (Keeps.refl _ wS)) (.cells #[.int .i64 (next - 1), .int .i64 (next - 1), .int .i64 (next - 1), .int .i64 (next - 1)] 3)).after (Keeps.of_grown (a := wS.drew.alloc (.cells #[.int .i64 (next - 1), .int .i64 (next - 1), .int .i64 (next - 1), .int .i64 (next - 1)] 3)) hg5 fun j e => e) fun i _ e => e
          have f5 : w5.frozen? ⟨bb, 1, none⟩ = false := (hk5.frozen H2.out.lt HB.out.dm).trans (H2.out.fz 1)
          have e7 : w5.cell? ⟨bb, 1, none⟩ = some vm := (hk5.cell H2.out.lt HB.out.dm).trans H2.out.c3
          have e8 : w5.cell? ⟨bb, 4, none⟩ = some (.int .i64 (next - 1)) := (hk5.cell H2.out.lt HB.out.dm).trans H2.out.c4
          refine hK.out _ _ (by first | exact e8 | (simp [go_sem, e8]; done)) (fun hHeld => ?_)
          clear hK K
          try simp only [Act.put]
          refine wpAnyH_take (i := 23) (v := ?tv21) rfl (by kernel_rfl) (by kernel_rfl) (by kernel_rfl) (fun _ _ _ h => h) (Or.inl ⟨by rfl, ?ty21⟩) (by assumption) ?tr21
          case ty21 => (intro w hSw; (try dsimp only at hSw); first | (go_simp; done) | (go_simp; with_reducible rfl))
          try simp only [Act.put]
          refine wpAnyH_take (i := 24) (v := ?tv22) rfl (by kernel_rfl) (by kernel_rfl) (by kernel_rfl) (fun _ _ _ h => h) (Or.inl ⟨by rfl, ?ty22⟩) (by assumption) ?tr22
          case ty22 => (intro w hSw; (try dsimp only at hSw); first | (go_simp; done) | (go_simp; with_reducible rfl))
          try simp only [Act.put]
          refine wpAnyH_ready (rs := [25]) (by kernel_rfl) (by simp) ?_
          refine AllReadyH.cons rfl (fun K hK => ?_) AllReadyH.nil
          go_simp
          refine hK.out _ _ (by simp [go_sem, e8]) (fun hHeld => ?_)
          clear hK K
          try simp only [Act.put]
          refine wpAnyH_done (by kernel_rfl) ?_ _
          have HF : Hid (_ ∧ _) := H2.out.done HB.out HD.out.1 HD.out.2 hk5 ho5 (hl5.imp id fun e => by omega)
          clear ho5 hg5 hl5 hlt5 hk5
          go_wp2
          exact bodyPost_end (v := .tuple #[]) (by simp [results, Tryz.results9, go_sem]) rfl ⟨rfl, ⟨_, _, _, _, _, HF.out.1⟩, HF.out.2⟩
        · go_simp
          refine hK.out _ _ (by first | assumption | (simp [go_sem, a5, e6]; done)) (fun hHeld => ?_)
          clear hK K
          try simp only [Act.put]
          refine wpAnyH_ready (rs := [4]) (by kernel_rfl) (by simp) ?_
          refine AllReadyH.cons rfl (fun K hK => ?_) AllReadyH.nil
          go_simp
          refine hK.out _ _ (by first | assumption | (simp [go_sem, a5, e6]; done)) (fun hHeld => ?_)
          clear hK K
          try simp only [Act.put]
          refine wpAnyH_ready (rs := [22]) (by kernel_rfl) (by simp) ?_
          refine AllReadyH.cons rfl (fun K hK => ?_) AllReadyH.nil
          refine step_append_lies _ (by rfl) _ _ _ (by rfl) base 3 i0 _ 1 8 nUnderInts HI.out.2.2.2 HI.out.1 HI.out.2.1 HI.out.2.2.1 rfl (by omega) vm I.length (I.map fun x => .int .i64 x.2) (by rfl) (by first | exact HRM.out.alloc _ | exact (HRM.out.alloc _).drew) ⟨wS.heap.size, 0, none⟩ 4 4 (List.replicate 4 (.int .i64 (next - 1))) (by rfl) (by rfl) (by exact news4 (W := wS) (t := 3) rfl) (by simp [Value.oneCell']) (by omega) (by unfold maxLen; omega) (by omega) (by simp; omega) (wS.heap.size + 1) (by simp) ?_
          intro gm cm w5 ho5 hg5 hl5 hlt5
          have hk5 : Keeps (fun k => vm.ownBlock = some k) wS w5 := (Keeps.alloc (Keeps.drew (Keeps.refl _ wS)) (.cells #[.int .i64 (next - 1), .int .i64 (next - 1), .int .i64 (next - 1), .int .i64 (next - 1)] 3)).after (Keeps.of_grown (a := wS.drew.alloc (.cells #[.int .i64 (next - 1), .int .i64 (next - 1), .int .i64 (next - 1), .int .i64 (next - 1)] 3)) hg5 fun j e => e) fun i _ e => e
          have f5 : w5.frozen? ⟨bb, 1, none⟩ = false := (hk5.frozen H2.out.lt HB.out.dm).trans (H2.out.fz 1)
          have e7 : w5.cell? ⟨bb, 1, none⟩ = some vm := (hk5.cell H2.out.lt HB.out.dm).trans H2.out.c3
          have e8 : w5.cell? ⟨bb, 4, none⟩ = some (.int .i64 (next - 1)) := (hk5.cell H2.out.lt HB.out.dm).trans H2.out.c4
          refine hK.out _ _ (by first | exact e8 | (simp [go_sem, e8]; done)) (fun hHeld => ?_)
          clear hK K
          try simp only [Act.put]
          refine wpAnyH_take (i := 23) (v := ?tv23) rfl (by kernel_rfl) (by kernel_rfl) (by kernel_rfl) (fun _ _ _ h => h) (Or.inl ⟨by rfl, ?ty23⟩) (by assumption) ?tr23
          case ty23 => (intro w hSw; (try dsimp only at hSw); first | (go_simp; done) | (go_simp; with_reducible rfl))
          try simp only [Act.put]
          refine wpAnyH_take (i := 24) (v := ?tv24) rfl (by kernel_rfl) (by kernel_rfl) (by kernel_rfl) (fun _ _ _ h => h) (Or.inl ⟨by rfl, ?ty24⟩) (by assumption) ?tr24
          case ty24 => (intro w hSw; (try dsimp only at hSw); first | (go_simp; done) | (go_simp; with_reducible rfl))
          try simp only [Act.put]
          refine wpAnyH_ready (rs := [25]) (by kernel_rfl) (by simp) ?_
          refine AllReadyH.cons rfl (fun K hK => ?_) AllReadyH.nil
          go_simp
          refine hK.out _ _ (by simp [go_sem, e8]) (fun hHeld => ?_)
          clear hK K
          try simp only [Act.put]
          refine wpAnyH_done (by kernel_rfl) ?_ _
          have HF : Hid (_ ∧ _) := H2.out.done HB.out HD.out.1 HD.out.2 hk5 ho5 (hl5.imp id fun e => by omega)
          clear ho5 hg5 hl5 hlt5 hk5
          go_wp2
          exact bodyPost_end (v := .tuple #[]) (by simp [results, Tryz.results9, go_sem]) rfl ⟨rfl, ⟨_, _, _, _, _, HF.out.1⟩, HF.out.2⟩
end Go.Proofs.YtlcmllmphpllbaaGreatDoor
