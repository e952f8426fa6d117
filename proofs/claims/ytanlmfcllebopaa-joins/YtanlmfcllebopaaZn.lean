/- (*thriftlaw.Book).looks, walked, where the book has no lists of nodes. -/
import Derived.Test.YtanlmfcllebopaaZm
namespace Go.Proofs.Ytanlmfcllebopaa
open Go.RowKit

/-- list k of the book -/
theorem IBook.list {w : World} {bb base : Nat} {io mo : Option Addr} {ic mc : Nat} {I : List (Value × Int)} {next : Int} (hB : IBook w bb base (.slice io I.length ic) (.slice mo I.length mc) I next) {k : Nat} (hk : k < I.length) :
    ∃ gi gm ao n cap m, io = some ⟨gi, 0, none⟩ ∧ mo = some ⟨gm, 0, none⟩ ∧ w.cell? ⟨gi, k, none⟩ = some (.slice ao n cap) ∧ w.cell? ⟨gm, k, none⟩ = some (.int .i64 m) ∧ n ≤ 2000 ∧ Hid (∀ j, j < n → ∃ g, ao = some ⟨g, 0, none⟩ ∧ w.cell? ⟨g, j, none⟩ = some (.int .i64 m)) := by
  obtain ⟨gi, ic', e1, _, _⟩ := hB.ri.form (by omega)
  obtain ⟨gm, mc', e2, _, _⟩ := hB.rm.form (by omega)
  cases e1
  cases e2
  obtain ⟨ao, n, cap, e, hn, h⟩ := hB.marks I[k] (List.getElem_mem hk)
  refine ⟨gi, gm, ao, n, cap, I[k].2, rfl, rfl, ?_, ?_, hn, h⟩
  · rw [hB.ri.cellAt k (by omega)]; simp [hk, e]
  · rw [hB.rm.cellAt k (by omega)]; simp [hk]
set_option maxHeartbeats 4000000 in
set_option maxRecDepth 100000 in
theorem looks_any (w : World) (bb base : Nat) (vi vm : Value) (I : List (Value × Int)) (next : Int) (hB : IBook w bb base vi vm I next) (hI : I.length ≤ 100000000000) :
    Calls Try.prog 7 #[.pointer (some ⟨bb, 0, none⟩)] w fun e w' => e = .returned (.bool true) ∧ ∃ n, w' = w.drewN n := by
  obtain ⟨io, ic, rfl⟩ := owns_shape hB.ri
  obtain ⟨mo, mc, rfl⟩ := owns_shape hB.rm
  have HB : Hid (IBook w bb base (.slice io I.length ic) (.slice mo I.length mc) I next) := hB
  have c0 := hB.c0
  have c2 := hB.c2
  have c3 := hB.c3
  have hbl := hB.lt
  clear hB
  go_enter Try.func7, Try.ntmps7
  go_wp2
  go_loopw [3] (fun i wr => i = .int .i64 0 ∧ wr = w) (fun _ _ => 0)
  case atStart => exact ⟨rfl, rfl⟩
  case round =>
    obtain ⟨rfl, rfl⟩ := hrel
    go_wp2
    go_loopw [6] (fun i wr' => ∃ k : Nat, k ≤ I.length ∧ i = .int .i64 k ∧ ∃ n, wr' = wr.drewN n) (fun i _ => I.length - (intOf i).toNat)
    case atStart => exact ⟨0, Nat.zero_le _, rfl, 0, rfl⟩
    case round =>
      obtain ⟨k, hk, rfl, n, rfl⟩ := hrel
      by_cases hlt : k < I.length
      · obtain ⟨gi, gm, lo, ln, lc, m, rfl, rfl, d0, d1, hln, hall⟩ := HB.out.list hlt
        go_wp2
        go_loopw [7] (fun i wr' => ∃ j : Nat, j ≤ ln ∧ i = .int .i64 j ∧ ∃ n, wr' = wr.drewN n) (fun i _ => ln - (intOf i).toNat)
        case atStart => exact ⟨0, Nat.zero_le _, rfl, _, rfl⟩
        case round =>
          obtain ⟨j, hj, rfl, n, rfl⟩ := hrel
          by_cases hjt : j < ln
          · obtain ⟨g, rfl, d2⟩ := hall.out j hjt
            go_wp2
            go_quiet ((fail))
            go_wp2
            go_roundw
            case rel => exact ⟨j + 1, by omega, by go_num, _, rfl⟩
            case measure => simp [intOf]; omega
          · go_wp2
            go_roundw
            case rel => exact ⟨k + 1, by omega, by go_num, _, rfl⟩
            case measure => simp [intOf]; omega
      · go_wp2
        go_ret
        exact ⟨rfl, _, rfl⟩
set_option maxHeartbeats 400000 in
theorem num_any (x : Int) (w : World) : Calls Try.prog 17 #[.int .i64 x] w fun e w' => e = .returned (.int .i64 x) ∧ w' = w := by
  go_enter Try.func17, Try.ntmps17
  go_wp2
  go_ret
  exact ⟨rfl, rfl⟩
/-- what a call of the law's leaves of the book -/
def BookPost (w : World) (bb base : Nat) (n : Nat) (next : Int) (e : Ending) (w' : World) : Prop :=
  e = .returned (.bool true) ∧ (∃ vi vm I, IBook w' bb base vi vm I (next - 1) ∧ I.length = n + 4) ∧ Below base w w'
/-- the rest: the book is written, and all is right -/
theorem book_end {w wx w' : World} {bb base : Nat} {vi vm v : Value} {I : List (Value × Int)} {next : Int} (hB : IBook w bb base vi vm I next) (hb : Below w.heap.size w wx) (hbase : base ≤ w.heap.size) (hv : ∀ g, v.ownBlock = some g → w.heap.size ≤ g) (h : OwnsPost wx bb base vi vm v I next w') : (∃ vi vm I', IBook w' bb base vi vm I' (next - 1) ∧ I'.length = I.length + 4) ∧ Below base w w' := by
  obtain ⟨⟨vi', vm', l1, l2, l3, h1⟩, hk⟩ := h
  refine ⟨⟨vi', vm', _, h1, by simp⟩, (hb.mono hbase).trans (hk.below (Nat.le_trans hbase hb.size) fun k hk => ?_)⟩
  rintro (e | e)
  · have := (hB.own_lt k e).1; omega
  · have := hv k e; omega
theorem IBook.new {w : World} {bb base : Nat} (hb : base ≤ bb) (hl : bb < w.heap.size) (c0 : w.cell? ⟨bb, 0, none⟩ = some (.slice none 0 0)) (c1 : w.cell? ⟨bb, 1, none⟩ = some (.slice none 0 0)) (c2 : w.cell? ⟨bb, 2, none⟩ = some (.slice none 0 0)) (c3 : w.cell? ⟨bb, 3, none⟩ = some (.slice none 0 0)) (c4 : w.cell? ⟨bb, 4, none⟩ = some (.int .i64 0)) (fz : ∀ i, w.frozen? ⟨bb, i, none⟩ = false) : IBook w bb base (.slice none 0 0) (.slice none 0 0) [] 0 :=
  ⟨hb, hl, c0, c1, c2, c3, c4, fz, World.ownsRow_nil _ _ _ _, World.ownsRow_nil _ _ _ _, fun e => (by cases e), fun e => (by cases e), fun g e => (by cases e), fun x hx => (by cases hx), fun x hx => (by cases hx), fun x hx => (by cases hx)⟩
end Go.Proofs.Ytanlmfcllebopaa
