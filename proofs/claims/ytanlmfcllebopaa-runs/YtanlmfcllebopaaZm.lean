/- (*thriftlaw.Book).ownsInts, walked. -/
import Derived.Test.YtanlmfcllebopaaZl
namespace Go.Proofs.Ytanlmfcllebopaa
open Go.RowKit

theorem zInfo : (Try.prog.info? 3).map (fun i => (i.zero, i.size, i.bytes)) = some (some (.int .i64 0), 1, 8) := by kernel_rfl
theorem zInfos : (Try.prog.info? 26).map (fun i => (i.zero, i.size, i.bytes)) = some (some (.slice none 0 0), 1, 24) := by kernel_rfl
theorem zUnderInts : Try.prog.underlying 26 = some (.slice 3) := by kernel_rfl
theorem zUnderIntss : Try.prog.underlying 27 = some (.slice 26) := by kernel_rfl
theorem zinfo_parts {P : Program} {t : TypeId} {z : Option Value} {a b : Nat} (h : (P.info? t).map (fun i => (i.zero, i.size, i.bytes)) = some (z, a, b)) : ∃ i, P.info? t = some i ∧ i.zero = z ∧ i.size = a ∧ i.bytes = b := by
  cases hi : P.info? t with
  | none => rw [hi] at h; cases h
  | some i =>
    rw [hi] at h
    simp only [Option.map_some, Option.some.injEq, Prod.mk.injEq] at h
    exact ⟨i, rfl, h.1, h.2.1, h.2.2⟩
/-- the first k are m, the others as they were -/
def markL (m : Int) (k : Nat) (xs : List Value) : List Value := List.replicate k (.int .i64 m) ++ xs.drop k
theorem markL_zero (m : Int) (xs : List Value) : markL m 0 xs = xs := by simp [markL]
theorem markL_all (m : Int) (xs : List Value) : markL m xs.length xs = List.replicate xs.length (.int .i64 m) := by simp [markL]
theorem markL_set {m : Int} {k : Nat} {xs : List Value} (h : k < xs.length) : (markL m k xs).set k (.int .i64 m) = markL m (k + 1) xs := by
  unfold markL
  rw [List.set_append, if_neg (by simp)]
  simp only [List.length_replicate, Nat.sub_self]
  rw [List.drop_eq_getElem_cons h, List.set_cons_zero, List.replicate_succ', List.append_assoc]
  rfl
/-- on the way: the book as it was, but for the number of the next mark -/
structure Mid (w wr : World) (bb base : Nat) (vi vm v : Value) (I : List (Value × Int)) (m : Int) : Prop where
  keeps : Keeps (fun k => BookOwn bb vi vm k ∨ v.ownBlock = some k) w wr
  lt : bb < wr.heap.size
  c0 : wr.cell? ⟨bb, 0, none⟩ = some (.slice none 0 0)
  c1 : wr.cell? ⟨bb, 1, none⟩ = some (.slice none 0 0)
  c2 : wr.cell? ⟨bb, 2, none⟩ = some vi
  c3 : wr.cell? ⟨bb, 3, none⟩ = some vm
  c4 : wr.cell? ⟨bb, 4, none⟩ = some (.int .i64 m)
  fz : ∀ i, wr.frozen? ⟨bb, i, none⟩ = false
  ri : wr.ownsRow base 26 1 vi I.length (I.map (·.1))
  rm : wr.ownsRow base 3 1 vm I.length (I.map fun x => .int .i64 x.2)
theorem Mid.start {w : World} {bb base : Nat} {vi vm v : Value} {I : List (Value × Int)} {next : Int} (h : IBook w bb base vi vm I next) (m : Int) : Mid w (w.setCell ⟨bb, 4, none⟩ (.int .i64 m)) bb base vi vm v I m := by
  have hk : Keeps (fun k => k = bb) w (w.setCell ⟨bb, 4, none⟩ (.int .i64 m)) := Keeps.setCell (S := fun k => k = bb) (Keeps.refl _ w) (.inl rfl) _
  refine ⟨hk.mono fun k _ e => .inl (.inl e), Nat.lt_of_lt_of_le h.lt hk.size, ?_, ?_, ?_, ?_, ?_, fun i => ?_, ownsRow_keeps h.ri hk fun g e e2 => h.di (by rw [e, e2]), ownsRow_keeps h.rm hk fun g e e2 => h.dm (by rw [e, e2])⟩
  · simp [go_sem, h.c0]
  · simp [go_sem, h.c1]
  · simp [go_sem, h.c2]
  · simp [go_sem, h.c3]
  · simp [go_sem, h.c4]
  · simp [go_sem, h.fz]
theorem Mid.next {w wr wr' : World} {bb base : Nat} {vi vm v : Value} {I : List (Value × Int)} {m : Int} (h : Mid w wr bb base vi vm v I m) (hvB : ∀ g, v.ownBlock = some g → ¬ BookOwn bb vi vm g) (hk : Keeps (fun k => v.ownBlock = some k) wr wr') : Mid w wr' bb base vi vm v I m := by
  have hb : ¬ v.ownBlock = some bb := fun e => hvB bb e (.inl rfl)
  exact ⟨h.keeps.after hk fun i _ e => .inr e, Nat.lt_of_lt_of_le h.lt hk.size, (hk.cell h.lt hb).trans h.c0, (hk.cell h.lt hb).trans h.c1, (hk.cell h.lt hb).trans h.c2, (hk.cell h.lt hb).trans h.c3, (hk.cell h.lt hb).trans h.c4, fun i => (hk.frozen h.lt hb).trans (h.fz i),
    ownsRow_keeps h.ri hk fun g e e2 => hvB g e2 (.inr (.inl e)), ownsRow_keeps h.rm hk fun g e e2 => hvB g e2 (.inr (.inr e))⟩
/-- a list that is written full, in no block of the book's -/
def LOk (w : World) (bb : Nat) (vi vm l : Value) (m : Int) : Prop := Marked w l m ∧ ∀ g, l.ownBlock = some g → g < w.heap.size ∧ ¬ BookOwn bb vi vm g
theorem LOk.holds {w w' : World} {bb : Nat} {vi vm l : Value} {m : Int} (h : LOk w bb vi vm l m) (hs : w.heap.size ≤ w'.heap.size) (hh : ∀ b k, w.cell? ⟨b, k, none⟩ = some (.int .i64 m) → w'.cell? ⟨b, k, none⟩ = some (.int .i64 m)) : LOk w' bb vi vm l m :=
  ⟨h.1.holds hh, fun g e => ⟨Nat.lt_of_lt_of_le (h.2 g e).1 hs, (h.2 g e).2⟩⟩
theorem LOk.keeps {w w' : World} {bb : Nat} {vi vm l : Value} {m : Int} {S : Nat → Prop} (h : LOk w bb vi vm l m) (hk : Keeps S w w') (hs : ∀ g, l.ownBlock = some g → g < w.heap.size → ¬ BookOwn bb vi vm g → ¬ S g) : LOk w' bb vi vm l m :=
  ⟨h.1.keeps hk fun g e => hs g e (h.2 g e).1 (h.2 g e).2, fun g e => ⟨Nat.lt_of_lt_of_le (h.2 g e).1 hk.size, (h.2 g e).2⟩⟩
/-- one more list, behind an append on v -/
theorem Mid.append {w wr w0 w1 : World} {bb base : Nat} {vi vm v : Value} {I : List (Value × Int)} {m : Int} {n c g cap : Nat} (h : Mid w wr bb base vi vm v I m) (hvB : ∀ g, v.ownBlock = some g → ¬ BookOwn bb vi vm g) (hB : ∀ g, BookOwn bb vi vm g → g < wr.heap.size) (h0 : Below wr.heap.size wr w0) (hn : n + c ≤ 2000)
    (ho : w1.ownsRow base 3 1 (.slice (some ⟨g, 0, none⟩) (n + c) cap) (n + c) (List.replicate n (.int .i64 m) ++ List.replicate c (.int .i64 m))) (hg : w0.grownBy w1 v.ownBlock) (hl : v.ownBlock = some g ∨ wr.heap.size ≤ g)
    (hh : ∀ b k, w0.cell? ⟨b, k, none⟩ = some (.int .i64 m) → w1.cell? ⟨b, k, none⟩ = some (.int .i64 m)) :
    Mid w w1 bb base vi vm v I m ∧ LOk w1 bb vi vm (.slice (some ⟨g, 0, none⟩) (n + c) cap) m ∧ wr.heap.size ≤ w1.heap.size ∧ (∀ b k, wr.cell? ⟨b, k, none⟩ = some (.int .i64 m) → w1.cell? ⟨b, k, none⟩ = some (.int .i64 m)) := by
  have hsz : wr.heap.size ≤ w1.heap.size := Nat.le_trans h0.size hg.size
  refine ⟨(h.next hvB (Keeps.of_below h0)).next hvB (Keeps.of_grown hg fun j e => e), ⟨?_, fun g' e => ?_⟩, hsz, fun b k e => ?_⟩
  · rw [List.replicate_append_replicate] at ho
    exact Marked.of_owns ho hn
  · rw [own_slice] at e
    cases e
    refine ⟨(World.ownsRow.lt ho g rfl).2, ?_⟩
    rcases hl with e | e
    · exact hvB g e
    · intro e2
      have h1 : g < wr.heap.size := hB _ e2
      have := h0.size
      omega
  · refine hh b k ?_
    rw [h0.cell (World.block_lt_of_cell? wr _ e)]
    exact e
/-- the lists are in -/
structure Mid2 (w wr : World) (bb base : Nat) (vi vm v : Value) (I : List (Value × Int)) (m : Int) (gi ci : Nat) (L : List Value) : Prop where
  keeps : Keeps (fun k => BookOwn bb vi vm k ∨ v.ownBlock = some k) w wr
  lt : bb < wr.heap.size
  c0 : wr.cell? ⟨bb, 0, none⟩ = some (.slice none 0 0)
  c1 : wr.cell? ⟨bb, 1, none⟩ = some (.slice none 0 0)
  c2 : wr.cell? ⟨bb, 2, none⟩ = some (.slice (some ⟨gi, 0, none⟩) (I.length + 4) ci)
  c3 : wr.cell? ⟨bb, 3, none⟩ = some vm
  c4 : wr.cell? ⟨bb, 4, none⟩ = some (.int .i64 m)
  fz : ∀ i, wr.frozen? ⟨bb, i, none⟩ = false
  ri : wr.ownsRow base 26 1 (.slice (some ⟨gi, 0, none⟩) (I.length + 4) ci) (I.length + 4) (I.map (·.1) ++ L)
  rm : wr.ownsRow base 3 1 vm I.length (I.map fun x => .int .i64 x.2)
  li : vi.ownBlock = some gi ∨ w.heap.size ≤ gi
  lg : gi < wr.heap.size
  ln : ∀ x ∈ L, LOk wr bb vi vm x m ∧ ∀ g, x.ownBlock = some g → g ≠ gi
theorem Mid.two {w w3 w4 : World} {bb base : Nat} {vi vm v : Value} {I : List (Value × Int)} {next m : Int} {gi ci : Nat} {L : List Value} (h : Mid w w3 bb base vi vm v I m) (hB : IBook w bb base vi vm I next) (hk : Keeps (fun k => vi.ownBlock = some k) w3 w4)
    (ho : w4.ownsRow base 26 1 (.slice (some ⟨gi, 0, none⟩) (I.length + 4) ci) (I.length + 4) (I.map (·.1) ++ L)) (hl : vi.ownBlock = some gi ∨ w3.heap.size ≤ gi) (hL : ∀ x ∈ L, LOk w3 bb vi vm x m) :
    Mid2 w (w4.setCell ⟨bb, 2, none⟩ (.slice (some ⟨gi, 0, none⟩) (I.length + 4) ci)) bb base vi vm v I m gi ci L := by
  have k5 : Keeps (fun k => k = bb) w4 (w4.setCell ⟨bb, 2, none⟩ (.slice (some ⟨gi, 0, none⟩) (I.length + 4) ci)) := Keeps.setCell (S := fun k => k = bb) (Keeps.refl _ w4) (.inl rfl) _
  have hgi : gi ≠ bb := by
    rcases hl with e | e
    · intro e2; subst e2; exact hB.di e
    · have := h.lt; omega
  have e2 : w4.cell? ⟨bb, 2, none⟩ = some vi := (hk.cell h.lt hB.di).trans h.c2
  refine ⟨(h.keeps.after hk fun i _ e => .inl (.inr (.inl e))).after k5 fun i _ e => .inl (.inl e), Nat.lt_of_lt_of_le h.lt (Nat.le_trans hk.size k5.size), ?_, ?_, ?_, ?_, ?_, fun i => ?_, ownsRow_keeps ho k5 fun g e e3 => ?_,
    ownsRow_keeps (ownsRow_keeps h.rm hk fun g e e3 => hB.dim g e3 e) k5 fun g e e3 => hB.dm (by rw [e, e3]), hl.imp id fun e => Nat.le_trans h.keeps.size e, Nat.lt_of_lt_of_le (World.ownsRow.lt ho gi rfl).2 k5.size, fun x hx => ⟨((hL x hx).keeps hk fun g _ _ h3 e => h3 (.inr (.inl e))).keeps k5 fun g _ _ h3 e => h3 (.inl e), fun g e => ?_⟩⟩
  · simp [go_sem, (hk.cell h.lt hB.di).trans h.c0]
  · simp [go_sem, (hk.cell h.lt hB.di).trans h.c1]
  · simp [go_sem, e2]
  · simp [go_sem, (hk.cell h.lt hB.di).trans h.c3]
  · simp [go_sem, (hk.cell h.lt hB.di).trans h.c4]
  · simp [go_sem, (hk.frozen h.lt hB.di).trans (h.fz i)]
  · rw [own_slice] at e
    cases e
    exact hgi e3
  · rintro rfl
    obtain ⟨q1, q2⟩ := (hL x hx).2 g e
    rcases hl with e2 | e2
    · exact q2 (.inr (.inl e2))
    · omega
theorem Mid2.done {w w5 w6 : World} {bb base : Nat} {vi vm v l1 l2 l3 : Value} {I : List (Value × Int)} {next m : Int} {gi ci gm cm : Nat} (h : Mid2 w w5 bb base vi vm v I m gi ci [v, l1, l2, l3]) (hB : IBook w bb base vi vm I next)
    (hvI : ∀ x ∈ I, ∀ g, x.1.ownBlock = some g → v.ownBlock ≠ some g) (hvB : ∀ g, v.ownBlock = some g → ¬ BookOwn bb vi vm g) (hk : Keeps (fun k => vm.ownBlock = some k) w5 w6)
    (ho : w6.ownsRow base 3 1 (.slice (some ⟨gm, 0, none⟩) (I.length + 4) cm) (I.length + 4) ((I.map fun x => Value.int .i64 x.2) ++ List.replicate 4 (.int .i64 m))) (hl : vm.ownBlock = some gm ∨ w5.heap.size ≤ gm) :
    IBook (w6.setCell ⟨bb, 3, none⟩ (.slice (some ⟨gm, 0, none⟩) (I.length + 4) cm)) bb base (.slice (some ⟨gi, 0, none⟩) (I.length + 4) ci) (.slice (some ⟨gm, 0, none⟩) (I.length + 4) cm) (I ++ [(v, m), (l1, m), (l2, m), (l3, m)]) m ∧
      Keeps (fun k => BookOwn bb vi vm k ∨ v.ownBlock = some k) w (w6.setCell ⟨bb, 3, none⟩ (.slice (some ⟨gm, 0, none⟩) (I.length + 4) cm)) := by
  have k7 : Keeps (fun k => k = bb) w6 (w6.setCell ⟨bb, 3, none⟩ (.slice (some ⟨gm, 0, none⟩) (I.length + 4) cm)) := Keeps.setCell (S := fun k => k = bb) (Keeps.refl _ w6) (.inl rfl) _
  have hgm : gm ≠ bb := by
    rcases hl with e | e
    · intro e2; subst e2; exact hB.dm e
    · have := h.lt; omega
  have hgi : gi ≠ bb := by
    rcases h.li with e | e
    · intro e2; subst e2; exact hB.di e
    · have := hB.lt; omega
  have hvg : ¬ vm.ownBlock = some gi := by
    rcases h.li with e | e
    · exact hB.dim gi e
    · intro e2; have := (hB.rm.lt gi e2).2; omega
  have him : gi ≠ gm := by
    rcases hl with e | e
    · intro e2; subst e2; exact hvg e
    · have := h.lg; omega
  have K : Keeps (fun k => BookOwn bb vi vm k ∨ v.ownBlock = some k) w (w6.setCell ⟨bb, 3, none⟩ (.slice (some ⟨gm, 0, none⟩) (I.length + 4) cm)) := (h.keeps.after hk fun i _ e => .inl (.inr (.inr e))).after k7 fun i _ e => .inl (.inl e)
  have e3 : w6.cell? ⟨bb, 3, none⟩ = some vm := (hk.cell h.lt hB.dm).trans h.c3
  refine ⟨?_, K⟩
  have hlen : (I ++ [(v, m), (l1, m), (l2, m), (l3, m)]).length = I.length + 4 := by simp
  have r := hB.more (v := v) (next' := m) (J := [(v, m), (l1, m), (l2, m), (l3, m)]) (gi := gi) (ci := ci) (gm := gm) (cm := cm) hvI hvB K ?_ ?_ ?_ ?_ ?_ (fun i => ?_) ?_ ?_ h.li (hl.imp id fun e => Nat.le_trans h.keeps.size e) him ?_
  · rw [hlen] at r; exact r
  · rw [hlen]; simp [go_sem, (hk.cell h.lt hB.dm).trans h.c2]
  · rw [hlen]; simp [go_sem, e3]
  · simp [go_sem, (hk.cell h.lt hB.dm).trans h.c4]
  · simp [go_sem, (hk.cell h.lt hB.dm).trans h.c0]
  · simp [go_sem, (hk.cell h.lt hB.dm).trans h.c1]
  · simp [go_sem, (hk.frozen h.lt hB.dm).trans (h.fz i)]
  · rw [hlen, List.map_append]
    exact ownsRow_keeps (ownsRow_keeps h.ri hk fun g e e2 => hvg (by rw [own_slice] at e; cases e; exact e2)) k7 fun g e e2 => hgi (by rw [own_slice] at e; cases e; exact e2)
  · rw [hlen, List.map_append]
    exact ownsRow_keeps ho k7 fun g e e2 => hgm (by rw [own_slice] at e; cases e; exact e2)
  · intro x hx
    obtain ⟨y, hy, e⟩ : ∃ y ∈ [v, l1, l2, l3], x = (y, m) := by
      simp only [List.mem_cons, List.not_mem_nil, or_false] at hx
      rcases hx with e | e | e | e <;> exact ⟨_, by simp, e⟩
    subst e
    obtain ⟨q1, q2⟩ := h.ln y hy
    have q3 := (q1.keeps hk fun g _ _ h3 e => h3 (.inr (.inr e))).keeps k7 fun g _ _ h3 e => h3 (.inl e)
    refine ⟨q3.1, fun g e => ⟨(q3.2 g e).1, fun e2 => (q3.2 g e).2 (.inl e2), q2 g e, ?_⟩⟩
    rintro rfl
    rcases hl with e2 | e2
    · exact (q3.2 g e).2 (.inr (.inr e2))
    · have := (q1.2 g e).1
      omega
theorem owns_shape {w : World} {base size n : Nat} {e : TypeId} {v : Value} {xs : List Value} (h : w.ownsRow base e size v n xs) : ∃ ao cap, v = .slice ao n cap := by
  rcases h.2 with ⟨rfl, rfl⟩ | ⟨g, cap, cur, rfl, _⟩
  · exact ⟨_, _, rfl⟩
  · exact ⟨_, _, rfl⟩
/-- what ownsInts leaves -/
structure OwnsPost (w : World) (bb base : Nat) (vi vm v : Value) (I : List (Value × Int)) (next : Int) (w' : World) : Prop where
  book : ∃ vi' vm' l1 l2 l3, IBook w' bb base vi' vm' (I ++ [(v, next - 1), (l1, next - 1), (l2, next - 1), (l3, next - 1)]) (next - 1)
  keeps : Keeps (fun k => BookOwn bb vi vm k ∨ v.ownBlock = some k) w w'
set_option maxHeartbeats 4000000 in
set_option maxRecDepth 100000 in
theorem ownsInts_any (w : World) (bb base : Nat) (vi vm v : Value) (I : List (Value × Int)) (next : Int) (n : Nat) (xs : List Value) (hB : IBook w bb base vi vm I next) (hv : w.ownsRow base 3 1 v n xs) (hn : n ≤ 1000) (hI : I.length ≤ 100000000000) (hx1 : -1000000000000 ≤ next) (hx2 : next ≤ 0)
    (hvI : ∀ x ∈ I, ∀ g, x.1.ownBlock = some g → v.ownBlock ≠ some g) (hvB : ∀ g, v.ownBlock = some g → ¬ BookOwn bb vi vm g) :
    Calls Try.prog 16 #[.pointer (some ⟨bb, 0, none⟩), v] w fun e w' => e = .returned (.tuple #[]) ∧ OwnsPost w bb base vi vm v I next w' := by
  obtain ⟨i0, hi, hz0, hz1, hz2⟩ := zinfo_parts zInfo
  have HI : Hid (i0.zero = some (.int .i64 0) ∧ i0.size = 1 ∧ i0.bytes = 8 ∧ Try.prog.info? 3 = some i0) := ⟨hz0, hz1, hz2, hi⟩
  clear hi hz0 hz1 hz2
  obtain ⟨i1, hi, hz0, hz1, hz2⟩ := zinfo_parts zInfos
  have HJ : Hid (i1.zero = some (.slice none 0 0) ∧ i1.size = 1 ∧ i1.bytes = 24 ∧ Try.prog.info? 26 = some i1) := ⟨hz0, hz1, hz2, hi⟩
  clear hi hz0 hz1 hz2
  obtain ⟨ao, vc, rfl⟩ := owns_shape hv
  have HB : Hid (IBook w bb base vi vm I next) := hB
  have HV : Hid (w.ownsRow base 3 1 (.slice ao n vc) n xs) := hv
  have HD : Hid ((∀ x ∈ I, ∀ g, x.1.ownBlock = some g → (Value.slice ao n vc).ownBlock ≠ some g) ∧ (∀ g, (Value.slice ao n vc).ownBlock = some g → ¬ BookOwn bb vi vm g)) := ⟨hvI, hvB⟩
  have hlen : xs.length = n := by have := hv.1; omega
  have c4 := hB.c4
  have f4 := hB.fz 4
  clear hB hv hvI hvB
  go_enter Try.func16, Try.ntmps16
  go_wp2
  go_loopw [5] (fun iv wr => ∃ k : Nat, iv = .int .i64 (k : Int) ∧ k ≤ n ∧ wr.ownsRow base 3 1 (.slice ao n vc) n (markL (next - 1) k xs) ∧ Mid w wr bb base vi vm (.slice ao n vc) I (next - 1)) (fun iv _ => n - (intOf iv).toNat)
  case atStart =>
    refine ⟨0, rfl, Nat.zero_le _, ?_, Mid.start HB.out _⟩
    rw [markL_zero]
    exact ownsRow_keeps HV.out (Keeps.setCell (S := fun k => k = bb) (Keeps.refl _ w) (.inl rfl) _) fun g e e2 => HD.out.2 g e (.inl e2)
  case round =>
    obtain ⟨k, rfl, hk, hR, hM⟩ := hrel
    have HR : Hid (wr.ownsRow base 3 1 (.slice ao n vc) n (markL (next - 1) k xs)) := hR
    have HM : Hid (Mid w wr bb base vi vm (.slice ao n vc) I (next - 1)) := hM
    clear hR hM c4 f4
    by_cases hlt : k < n
    · obtain ⟨g, cap, hve, hg1, hg2⟩ := HR.out.form (by omega)
      cases hve
      have hfz := HR.out.frozenAt k
      obtain ⟨u, hc⟩ : ∃ u, wr.cell? ⟨g, k, none⟩ = some u := by
        rw [HR.out.cellAt k (by omega)]
        have := HR.out.1
        exact ⟨_, List.getElem?_eq_getElem (by omega)⟩
      go_wp2
      refine ⟨⟨k + 1, by go_num, by omega, ?_, HM.out.next HD.out.2 (Keeps.setCell (S := fun k => (Value.slice (some ⟨g, 0, none⟩) n vc).ownBlock = some k) (p := ⟨g, k, none⟩) (Keeps.refl _ _) (.inl rfl) _)⟩, by simp [intOf]; omega⟩
      rw [← markL_set (by omega)]
      exact (HR.out.stored k _).1
    · have hke : k = n := by omega
      subst hke
      have HA : Hid (wr.ownsRow base 3 1 (.slice ao k vc) k (List.replicate k (.int .i64 (next - 1)))) := by
        have := HR.out
        rw [← hlen, markL_all, hlen] at this
        exact this
      have hb0 : base ≤ wr.heap.size := by have := HB.out.lo; have := HM.out.lt; omega
      clear HR hlt hk
      have HBO : Hid (∀ g, BookOwn bb vi vm g → g < wr.heap.size) := fun g e => Nat.lt_of_lt_of_le (HB.out.own_lt g e).2 HM.out.keeps.size
      have HL0 : Hid (LOk wr bb vi vm (.slice ao k vc) (next - 1)) := ⟨Marked.of_owns HA.out (by omega), fun g e => ⟨(HA.out.lt g e).2, HD.out.2 g e⟩⟩
      go_wp2_with (at_builtin; refine wpList_append_all _ rfl _ _ 26 rfl base 3 i0 _ 1 8 zUnderInts HI.out.2.2.2 HI.out.1 HI.out.2.1 HI.out.2.2.1 rfl (by decide) _ _ _ rfl (HA.out.alloc _) ⟨wr.heap.size, 0, none⟩ 1 1 (List.replicate 1 (.int .i64 (next - 1))) rfl rfl ?c1 ?c2 (by decide) ?c3 ?c4 ?c5 ?_)
      case c1 =>
        intro j u hj
        match j, hj with
        | 0, hj => simp at hj; subst hj; simp [Addr.add, go_sem]
        | j + 1, hj => simp at hj
      case c2 => intro u hu; rw [List.eq_of_mem_replicate hu]; rfl
      case c3 => unfold maxLen; omega
      case c4 => omega
      case c5 => simp; omega
      intro g1 q1 w1 ho1 hg1 hl1 hk1 hh1
      obtain ⟨hM1, hL1, hs1, hc1⟩ := HM.out.append HD.out.2 HBO.out (Bl.more (Bl.refl _) _) (by omega) ho1 hg1 (hl1.imp id fun e => by omega) hh1
      have HM1 : Hid (Mid w w1 bb base vi vm (.slice ao k vc) I (next - 1)) := hM1
      have HA1 : Hid (w1.ownsRow base 3 1 (.slice ao k vc) k (List.replicate k (.int .i64 (next - 1)))) := hk1
      have HBO1 : Hid (∀ g, BookOwn bb vi vm g → g < w1.heap.size) := fun g e => Nat.lt_of_lt_of_le (HBO.out g e) hs1
      have HN1 : Hid (LOk w1 bb vi vm (.slice (some ⟨g1, 0, none⟩) (k + 1) q1) (next - 1)) := hL1
      have HL01 : Hid (LOk w1 bb vi vm (.slice ao k vc) (next - 1)) := HL0.out.holds hs1 hc1
      have hb1 : base ≤ w1.heap.size := Nat.le_trans hb0 hs1
      clear hM1 hL1 hs1 hc1 ho1 hg1 hl1 hk1 hh1
      go_wp2_with (at_builtin; refine wpList_append_all _ rfl _ _ 26 rfl base 3 i0 _ 1 8 zUnderInts HI.out.2.2.2 HI.out.1 HI.out.2.1 HI.out.2.2.1 rfl (by decide) _ _ _ rfl (HA1.out.alloc _) ⟨w1.heap.size, 0, none⟩ 2 2 (List.replicate 2 (.int .i64 (next - 1))) rfl rfl ?c1 ?c2 (by decide) ?c3 ?c4 ?c5 ?_)
      case c1 =>
        intro j u hj
        match j, hj with
        | 0, hj => simp at hj; subst hj; simp [Addr.add, go_sem]
        | 1, hj => simp at hj; subst hj; simp [Addr.add, go_sem]
        | j + 2, hj => simp at hj
      case c2 => intro u hu; rw [List.eq_of_mem_replicate hu]; rfl
      case c3 => unfold maxLen; omega
      case c4 => omega
      case c5 => simp; omega
      intro g2 q2 w2 ho2 hg2 hl2 hk2 hh2
      obtain ⟨hM2, hL2, hs2, hc2⟩ := HM1.out.append HD.out.2 HBO1.out (Bl.more (Bl.refl _) _) (by omega) ho2 hg2 (hl2.imp id fun e => by omega) hh2
      have HM2 : Hid (Mid w w2 bb base vi vm (.slice ao k vc) I (next - 1)) := hM2
      have HA2 : Hid (w2.ownsRow base 3 1 (.slice ao k vc) k (List.replicate k (.int .i64 (next - 1)))) := hk2
      have HBO2 : Hid (∀ g, BookOwn bb vi vm g → g < w2.heap.size) := fun g e => Nat.lt_of_lt_of_le (HBO1.out g e) hs2
      have HN2 : Hid (LOk w2 bb vi vm (.slice (some ⟨g2, 0, none⟩) (k + 2) q2) (next - 1)) := hL2
      have HL02 : Hid (LOk w2 bb vi vm (.slice ao k vc) (next - 1)) := HL01.out.holds hs2 hc2
      have HN12 : Hid (LOk w2 bb vi vm (.slice (some ⟨g1, 0, none⟩) (k + 1) q1) (next - 1)) := HN1.out.holds hs2 hc2
      have hb2 : base ≤ w2.heap.size := Nat.le_trans hb1 hs2
      clear hM2 hL2 hs2 hc2 ho2 hg2 hl2 hk2 hh2
      go_wp2_with (at_builtin; refine wpList_append_all _ rfl _ _ 26 rfl base 3 i0 _ 1 8 zUnderInts HI.out.2.2.2 HI.out.1 HI.out.2.1 HI.out.2.2.1 rfl (by decide) _ _ _ rfl (HA2.out.alloc _) ⟨w2.heap.size, 0, none⟩ 3 3 (List.replicate 3 (.int .i64 (next - 1))) rfl rfl ?c1 ?c2 (by decide) ?c3 ?c4 ?c5 ?_)
      case c1 =>
        intro j u hj
        match j, hj with
        | 0, hj => simp at hj; subst hj; simp [Addr.add, go_sem]
        | 1, hj => simp at hj; subst hj; simp [Addr.add, go_sem]
        | 2, hj => simp at hj; subst hj; simp [Addr.add, go_sem]
        | j + 3, hj => simp at hj
      case c2 => intro u hu; rw [List.eq_of_mem_replicate hu]; rfl
      case c3 => unfold maxLen; omega
      case c4 => omega
      case c5 => simp; omega
      intro g3 q3 w3 ho3 hg3 hl3 hk3 hh3
      obtain ⟨hM3, hL3, hs3, hc3⟩ := HM2.out.append HD.out.2 HBO2.out (Bl.more (Bl.refl _) _) (by omega) ho3 hg3 (hl3.imp id fun e => by omega) hh3
      have HM3 : Hid (Mid w w3 bb base vi vm (.slice ao k vc) I (next - 1)) := hM3
      have HA3 : Hid (w3.ownsRow base 3 1 (.slice ao k vc) k (List.replicate k (.int .i64 (next - 1)))) := hk3
      have HBO3 : Hid (∀ g, BookOwn bb vi vm g → g < w3.heap.size) := fun g e => Nat.lt_of_lt_of_le (HBO2.out g e) hs3
      have HN3 : Hid (LOk w3 bb vi vm (.slice (some ⟨g3, 0, none⟩) (k + 3) q3) (next - 1)) := hL3
      have HL03 : Hid (LOk w3 bb vi vm (.slice ao k vc) (next - 1)) := HL02.out.holds hs3 hc3
      have HN13 : Hid (LOk w3 bb vi vm (.slice (some ⟨g1, 0, none⟩) (k + 1) q1) (next - 1)) := HN12.out.holds hs3 hc3
      have HN23 : Hid (LOk w3 bb vi vm (.slice (some ⟨g2, 0, none⟩) (k + 2) q2) (next - 1)) := HN2.out.holds hs3 hc3
      have hb3 : base ≤ w3.heap.size := Nat.le_trans hb2 hs3
      clear hM3 hL3 hs3 hc3 ho3 hg3 hl3 hk3 hh3
      have c2 := HM3.out.c2
      have l3 := HM3.out.lt
      have a3 := al1 l3
      go_wp2_with (at_builtin; refine wpList_append_all _ rfl _ _ 27 rfl base 26 i1 _ 1 24 zUnderIntss HJ.out.2.2.2 HJ.out.1 HJ.out.2.1 HJ.out.2.2.1 rfl (by decide) _ _ _ rfl (HM3.out.ri.alloc _) ⟨w3.heap.size, 0, none⟩ 4 4 [.slice ao k vc, .slice (some ⟨g1, 0, none⟩) (k + 1) q1, .slice (some ⟨g2, 0, none⟩) (k + 2) q2, .slice (some ⟨g3, 0, none⟩) (k + 3) q3] rfl rfl ?c1 ?c2 (by decide) ?c3 ?c4 ?c5 ?_)
      case c1 =>
        intro j u hj
        match j, hj with
        | 0, hj => simp at hj; subst hj; simp [Addr.add, go_sem]
        | 1, hj => simp at hj; subst hj; simp [Addr.add, go_sem]
        | 2, hj => simp at hj; subst hj; simp [Addr.add, go_sem]
        | 3, hj => simp at hj; subst hj; simp [Addr.add, go_sem]
        | j + 4, hj => simp at hj
      case c2 => intro u hu; simp at hu; rcases hu with rfl | rfl | rfl | rfl <;> rfl
      case c3 => unfold maxLen; omega
      case c4 => omega
      case c5 => simp; omega
      intro gi ci w4 ho4 hg4 hl4 hk4
      have hk4' : Keeps (fun k => vi.ownBlock = some k) w3 w4 := (Keeps.alloc (Keeps.refl _ _) _).after (Keeps.of_grown hg4 fun j e => e) fun i _ e => e
      have h2 := HM3.out.two HB.out hk4' ho4 (hl4.imp id fun e => by omega) (fun x hx => by
        simp only [List.mem_cons, List.not_mem_nil, or_false] at hx
        rcases hx with rfl | rfl | rfl | rfl
        · exact HL03.out
        · exact HN13.out
        · exact HN23.out
        · exact HN3.out)
      have f4 : w4.frozen? ⟨bb, 2, none⟩ = false := (hk4'.frozen HM3.out.lt HB.out.di).trans (HM3.out.fz 2)
      have e4 : w4.cell? ⟨bb, 2, none⟩ = some vi := (hk4'.cell HM3.out.lt HB.out.di).trans c2
      have e5 : w4.cell? ⟨bb, 3, none⟩ = some vm := (hk4'.cell HM3.out.lt HB.out.di).trans HM3.out.c3
      have l4 : bb < w4.heap.size := Nat.lt_of_lt_of_le l3 hk4'.size
      have hb4 : base ≤ w4.heap.size := Nat.le_trans hb3 hk4'.size
      have H2 : Hid (Mid2 w (w4.setCell ⟨bb, 2, none⟩ (.slice (some ⟨gi, 0, none⟩) (I.length + 4) ci)) bb base vi vm (.slice ao k vc) I (next - 1) gi ci [.slice ao k vc, .slice (some ⟨g1, 0, none⟩) (k + 1) q1, .slice (some ⟨g2, 0, none⟩) (k + 2) q2, .slice (some ⟨g3, 0, none⟩) (k + 3) q3]) := h2
      have a4 := al1 l4
      clear h2 ho4 hg4 hl4 hk4 hk4' c2 l3 a3
      go_wp2_with (at_builtin; refine wpList_append_all _ rfl _ _ 26 rfl base 3 i0 _ 1 8 zUnderInts HI.out.2.2.2 HI.out.1 HI.out.2.1 HI.out.2.2.1 rfl (by decide) _ _ _ rfl (H2.out.rm.alloc _) ⟨w4.heap.size, 0, none⟩ 4 4 (List.replicate 4 (.int .i64 (next - 1))) rfl rfl ?c1 ?c2 (by decide) ?c3 ?c4 ?c5 ?_)
      case c1 =>
        intro j u hj
        match j, hj with
        | 0, hj => simp at hj; subst hj; simp [Addr.add, go_sem]
        | 1, hj => simp at hj; subst hj; simp [Addr.add, go_sem]
        | 2, hj => simp at hj; subst hj; simp [Addr.add, go_sem]
        | 3, hj => simp at hj; subst hj; simp [Addr.add, go_sem]
        | j + 4, hj => simp at hj
      case c2 => intro u hu; rw [List.eq_of_mem_replicate hu]; rfl
      case c3 => unfold maxLen; omega
      case c4 => omega
      case c5 => simp; omega
      intro gm cm w5 ho5 hg5 hl5 hk5 hh5
      have hk5' : Keeps (fun k => vm.ownBlock = some k) (w4.setCell ⟨bb, 2, none⟩ (.slice (some ⟨gi, 0, none⟩) (I.length + 4) ci)) w5 := (Keeps.alloc (Keeps.refl _ _) _).after (Keeps.of_grown hg5 fun j e => e) fun i _ e => e
      have HF : Hid (_ ∧ _) := H2.out.done HB.out HD.out.1 HD.out.2 hk5' ho5 (hl5.imp id fun e => by simp; omega)
      have f5 : w5.frozen? ⟨bb, 3, none⟩ = false := (hk5'.frozen H2.out.lt HB.out.dm).trans (H2.out.fz 3)
      have e6 : w5.cell? ⟨bb, 3, none⟩ = some vm := (hk5'.cell H2.out.lt HB.out.dm).trans H2.out.c3
      clear ho5 hg5 hl5 hk5 hh5 hk5' f4 e4 e5 a4
      go_wp2
      exact bodyPost_end (v := .tuple #[]) (by simp [results, Try.results16, go_sem]) rfl ⟨rfl, ⟨_, _, _, _, _, HF.out.1⟩, HF.out.2⟩
end Go.Proofs.Ytanlmfcllebopaa
