/- ops.Known once more: the type of the block in which the list of fields lies. -/
import Derived.Test.YtanlmfcllebopaaDoorRRXa
namespace Go.Proofs.YtanlmfcllebopaaDoorRR
open Go.RowKit

/-- block k holds cells of type t -/
def TyAt (w : World) (k : Nat) (t : TypeId) : Prop := ∃ c fz, w.heap[k]? = some (.cells c t fz)
theorem TyAt.lt {w : World} {k : Nat} {t : TypeId} (h : TyAt w k t) : k < w.heap.size := by
  obtain ⟨c, fz, h⟩ := h
  rcases Nat.lt_or_ge k w.heap.size with h' | h'
  · exact h'
  · rw [Array.getElem?_eq_none h'] at h; cases h
theorem TyAt.more {w : World} {k : Nat} {t : TypeId} (h : TyAt w k t) (o : Obj) : TyAt (w.alloc o) k t := by
  have hl := h.lt
  obtain ⟨c, fz, h⟩ := h
  exact ⟨c, fz, (Below.heap_alloc _ _ _ hl).trans h⟩
theorem TyAt.new {w : World} {k : Nat} {t : TypeId} {fz : Nat × Nat} (h : k = w.heap.size) (c : Array Value) : TyAt (w.alloc (.cells c t fz)) k t := by
  subst h; exact ⟨c, fz, heap_alloc_new w _⟩
theorem TyAt.below {w w' : World} {k : Nat} {t : TypeId} (h : TyAt w k t) (hb : Below w.heap.size w w') : TyAt w' k t := by
  have hl := h.lt
  obtain ⟨c, fz, h⟩ := h
  exact ⟨c, fz, (hb.block k hl).trans h⟩

set_option maxHeartbeats 4000000 in
set_option maxRecDepth 100000 in
theorem known_ty (op : Int) (w : World) (ho : op = 1 ∨ op = 2 ∨ op = 3 ∨ op = 4 ∨ op = 5 ∨ op = 6 ∨ op = 7 ∨ op = 8) :
    Calls Tryd.prog 23 #[.int .i64 op] w fun e w' => ∃ b, e = .returned (.tuple #[.agg (kindCells op b), .bool true]) ∧ SaysAt w' b op ∧ Below w.heap.size w w' ∧ TyAt w' b 70 := by
  have HO : Hid (op = 1 ∨ op = 2 ∨ op = 3 ∨ op = 4 ∨ op = 5 ∨ op = 6 ∨ op = 7 ∨ op = 8) := ho
  clear ho
  have h1 : 1 ≤ op := by have := HO.out; omega
  have h8 : op < 9 := by have := HO.out; omega
  go_enter Tryd.func23, Tryd.ntmps23
  go_upto_region 2 with (with_reducible refine wpList_store_new (op := ⟨none, .store 86 (.tmp 4) (.tmp 21), 0, _, _, none⟩) ?ka1 86 (.tmp 4) (.tmp 21) ?ka2 ?kn 45 _ ?kc ?ka3 ?ka4 ?ka5 infoTable ?ka6 ?ka7 ?ka8 ?ka9)
  case ka3 => exact rfl
  case ka5 => exact rfl
  case ka1 => exact rfl
  case ka2 => exact rfl
  case ka4 => simp
  case ka6 => exact rfl
  case ka7 => exact rfl
  case ka8 => simp [Value.oneCell']
  rcases HO.out with rfl | rfl | rfl | rfl | rfl | rfl | rfl | rfl
  · go_wp2
    refine bodyPost_ret (v := .tuple #[.agg #[.string ⟨#[105, 110]⟩, .slice (some ⟨w.heap.size + 1, 0, none⟩) 3 3, .func (.func 33) #[] #[], .func (.func 34) #[] #[], .func (.func 35) #[] #[]], .bool true]) (by simp [results, Tryd.results23, go_sem]) rfl ⟨w.heap.size + 1, rfl, says3 (by first | omega | (simp; done) | (simp; omega)) rfl (by simp [go_sem]) (by simp [go_sem]) (by simp [go_sem]), ?_⟩
    refine ⟨Bl.more (Bl.more (Bl.more (Bl.more (Bl.more (Bl.more (Bl.more (Bl.more (Bl.more (Bl.more (Bl.refl _) _) _) _) _) _) _) _) _) _) _, ?_⟩
    repeat (first | exact TyAt.new (by first | omega | (simp; done) | (simp; omega)) _ | refine TyAt.more ?_ _)
  · go_wp2
    refine bodyPost_ret (v := .tuple #[.agg #[.string ⟨#[102, 105, 108, 108]⟩, .slice (some ⟨w.heap.size + 1 + 1, 0, none⟩) 3 3, .func (.func 36) #[] #[], .func (.func 37) #[] #[], .func (.func 38) #[] #[]], .bool true]) (by simp [results, Tryd.results23, go_sem]) rfl ⟨w.heap.size + 1 + 1, rfl, says3 (by first | omega | (simp; done) | (simp; omega)) rfl (by simp [go_sem]) (by simp [go_sem]) (by simp [go_sem]), ?_⟩
    refine ⟨Bl.more (Bl.more (Bl.more (Bl.more (Bl.more (Bl.more (Bl.more (Bl.more (Bl.more (Bl.more (Bl.refl _) _) _) _) _) _) _) _) _) _) _, ?_⟩
    repeat (first | exact TyAt.new (by first | omega | (simp; done) | (simp; omega)) _ | refine TyAt.more ?_ _)
  · go_wp2
    refine bodyPost_ret (v := .tuple #[.agg #[.string ⟨#[97, 100, 100]⟩, .slice (some ⟨w.heap.size + 1 + 1 + 1, 0, none⟩) 2 2, .func (.func 39) #[] #[], .func (.func 40) #[] #[], .func (.func 41) #[] #[]], .bool true]) (by simp [results, Tryd.results23, go_sem]) rfl ⟨w.heap.size + 1 + 1 + 1, rfl, says2 (by first | omega | (simp; done) | (simp; omega)) rfl (by simp [go_sem]) (by simp [go_sem]), ?_⟩
    refine ⟨Bl.more (Bl.more (Bl.more (Bl.more (Bl.more (Bl.more (Bl.more (Bl.more (Bl.more (Bl.more (Bl.refl _) _) _) _) _) _) _) _) _) _) _, ?_⟩
    repeat (first | exact TyAt.new (by first | omega | (simp; done) | (simp; omega)) _ | refine TyAt.more ?_ _)
  · go_wp2
    refine bodyPost_ret (v := .tuple #[.agg #[.string ⟨#[115, 117, 98]⟩, .slice (some ⟨w.heap.size + 1 + 1 + 1 + 1, 0, none⟩) 2 2, .func (.func 39) #[] #[], .func (.func 40) #[] #[], .func (.func 42) #[] #[]], .bool true]) (by simp [results, Tryd.results23, go_sem]) rfl ⟨w.heap.size + 1 + 1 + 1 + 1, rfl, says2 (by first | omega | (simp; done) | (simp; omega)) rfl (by simp [go_sem]) (by simp [go_sem]), ?_⟩
    refine ⟨Bl.more (Bl.more (Bl.more (Bl.more (Bl.more (Bl.more (Bl.more (Bl.more (Bl.more (Bl.more (Bl.refl _) _) _) _) _) _) _) _) _) _) _, ?_⟩
    repeat (first | exact TyAt.new (by first | omega | (simp; done) | (simp; omega)) _ | refine TyAt.more ?_ _)
  · go_wp2
    refine bodyPost_ret (v := .tuple #[.agg #[.string ⟨#[109, 117, 108]⟩, .slice (some ⟨w.heap.size + 1 + 1 + 1 + 1 + 1, 0, none⟩) 2 2, .func (.func 39) #[] #[], .func (.func 40) #[] #[], .func (.func 43) #[] #[]], .bool true]) (by simp [results, Tryd.results23, go_sem]) rfl ⟨w.heap.size + 1 + 1 + 1 + 1 + 1, rfl, says2 (by first | omega | (simp; done) | (simp; omega)) rfl (by simp [go_sem]) (by simp [go_sem]), ?_⟩
    refine ⟨Bl.more (Bl.more (Bl.more (Bl.more (Bl.more (Bl.more (Bl.more (Bl.more (Bl.more (Bl.more (Bl.refl _) _) _) _) _) _) _) _) _) _) _, ?_⟩
    repeat (first | exact TyAt.new (by first | omega | (simp; done) | (simp; omega)) _ | refine TyAt.more ?_ _)
  · go_wp2
    refine bodyPost_ret (v := .tuple #[.agg #[.string ⟨#[115, 99, 97, 108, 101]⟩, .slice (some ⟨w.heap.size + 1 + 1 + 1 + 1 + 1 + 1, 0, none⟩) 2 2, .func (.func 44) #[] #[], .func (.func 40) #[] #[], .func (.func 45) #[] #[]], .bool true]) (by simp [results, Tryd.results23, go_sem]) rfl ⟨w.heap.size + 1 + 1 + 1 + 1 + 1 + 1, rfl, says2 (by first | omega | (simp; done) | (simp; omega)) rfl (by simp [go_sem]) (by simp [go_sem]), ?_⟩
    refine ⟨Bl.more (Bl.more (Bl.more (Bl.more (Bl.more (Bl.more (Bl.more (Bl.more (Bl.more (Bl.more (Bl.refl _) _) _) _) _) _) _) _) _) _) _, ?_⟩
    repeat (first | exact TyAt.new (by first | omega | (simp; done) | (simp; omega)) _ | refine TyAt.more ?_ _)
  · go_wp2
    refine bodyPost_ret (v := .tuple #[.agg #[.string ⟨#[116, 105, 109, 101, 115]⟩, .slice (some ⟨w.heap.size + 1 + 1 + 1 + 1 + 1 + 1 + 1, 0, none⟩) 2 2, .func (.func 46) #[] #[], .func (.func 47) #[] #[], .func (.func 48) #[] #[]], .bool true]) (by simp [results, Tryd.results23, go_sem]) rfl ⟨w.heap.size + 1 + 1 + 1 + 1 + 1 + 1 + 1, rfl, says2 (by first | omega | (simp; done) | (simp; omega)) rfl (by simp [go_sem]) (by simp [go_sem]), ?_⟩
    refine ⟨Bl.more (Bl.more (Bl.more (Bl.more (Bl.more (Bl.more (Bl.more (Bl.more (Bl.more (Bl.more (Bl.refl _) _) _) _) _) _) _) _) _) _) _, ?_⟩
    repeat (first | exact TyAt.new (by first | omega | (simp; done) | (simp; omega)) _ | refine TyAt.more ?_ _)
  · go_wp2
    refine bodyPost_ret (v := .tuple #[.agg #[.string ⟨#[116, 117, 114, 110]⟩, .slice (some ⟨w.heap.size + 1 + 1 + 1 + 1 + 1 + 1 + 1 + 1, 0, none⟩) 1 1, .func (.func 49) #[] #[], .func (.func 40) #[] #[], .func (.func 50) #[] #[]], .bool true]) (by simp [results, Tryd.results23, go_sem]) rfl ⟨w.heap.size + 1 + 1 + 1 + 1 + 1 + 1 + 1 + 1, rfl, says1 (by first | omega | (simp; done) | (simp; omega)) rfl (by simp [go_sem]), ?_⟩
    refine ⟨Bl.more (Bl.more (Bl.more (Bl.more (Bl.more (Bl.more (Bl.more (Bl.more (Bl.more (Bl.more (Bl.refl _) _) _) _) _) _) _) _) _) _) _, ?_⟩
    repeat (first | exact TyAt.new (by first | omega | (simp; done) | (simp; omega)) _ | refine TyAt.more ?_ _)

end Go.Proofs.YtanlmfcllebopaaDoorRR
