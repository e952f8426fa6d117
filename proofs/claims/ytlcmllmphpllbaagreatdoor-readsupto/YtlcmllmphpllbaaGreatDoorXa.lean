/- ops.Known, walked: what is known of each Op. -/
import Derived.Test.YtlcmllmphpllbaaGreatDoorWh
import Derived.Deep.WholeRow
import Derived.Laws.EntriesVeiled
import Derived.Deep.Cut
namespace Go.Proofs.YtlcmllmphpllbaaGreatDoor
open Go.RowKit

theorem wpList_store_new {P : Program} {ops : Array Oper} {rest : List Oper} {op : Oper} {a : Act} {W : World} {Q : Exit → Act → World → Prop} (hgd : op.guard = none) (ty : TypeId) (x y : Operand) (ho : op.op = .store ty x y)
    (n N : Nat) (c c' : Array Value) (hx : a.eval x = .pointer (some ⟨n, 0, none⟩)) (hn : n = W.heap.size) (hy : a.eval y = .agg c')
    (hi : (P.info? ty).map (·.size) = some N) (hc : c.size = N) (hc' : c'.size = N) (h1 : c'.all (·.oneCell') = true)
    (h : wpList P ops Q rest (a.put op.dst undef) (W.alloc (.cells c' ty))) : wpList P ops Q (op :: rest) a (W.alloc (.cells c ty)) :=
  wpList_plain hgd fun _ hK => by
    subst hn
    unfold Oper.wp execOp
    simp only [ho, hx, hy, Instr.storeAt, Instr.sureAddr, Sem.run_bind, Sem.run_pure, Result.andThen_ok, run_storeVar_new W ty c c' (by rw [hc']; exact hi) (by rw [hc, hc']) h1]
    exact hK _ _ h
theorem infoTable : (Tryz.prog.info? 101).map (·.size) = some 45 := by kernel_rfl

/-- the fields that a line says, by numbers: K 0, A 1, B 2, Rows 3, Cols 4 -/
def saysZ (op : Int) : List Int := if op = 1 ∨ op = 2 then [0, 3, 4] else if op = 6 then [0, 1] else if op = 8 then [1] else [1, 2]
def shapeF (op : Int) : Nat := if op = 1 then 43 else if op = 2 then 46 else if op = 6 then 54 else if op = 7 then 56 else if op = 8 then 59 else 49
def costF (op : Int) : Nat := if op = 1 then 44 else if op = 2 then 47 else if op = 7 then 57 else 50
def atF (op : Int) : Nat := if op = 1 then 45 else if op = 2 then 48 else if op = 3 then 51 else if op = 4 then 52 else if op = 5 then 53 else if op = 6 then 55 else if op = 7 then 58 else 60
/-- what is known of an op, its list of fields lying in block b -/
def kindCells (op : Int) (b : Nat) : Array Value := #[.string (bs (wordL op)), .slice (some ⟨b, 0, none⟩) (saysZ op).length (saysZ op).length, .func (.func (shapeF op)) #[] #[], .func (.func (costF op)) #[] #[], .func (.func (atF op)) #[] #[]]
def SaysAt (w : World) (b : Nat) (op : Int) : Prop := b < w.heap.size ∧ ∀ j, (h : j < (saysZ op).length) → w.cell? ⟨b, j, none⟩ = some (.int .i64 (saysZ op)[j])
theorem SaysAt.below {w w' : World} {b : Nat} {op : Int} (h : SaysAt w b op) (hb : Below w.heap.size w w') : SaysAt w' b op :=
  ⟨Nat.lt_of_lt_of_le h.1 hb.size, fun j hj => by rw [hb.cell (by exact h.1)]; exact h.2 j hj⟩

theorem says3 {w : World} {b : Nat} {op x y z : Int} (hb : b < w.heap.size) (hl : saysZ op = [x, y, z]) (c0 : w.cell? ⟨b, 0, none⟩ = some (.int .i64 x)) (c1 : w.cell? ⟨b, 1, none⟩ = some (.int .i64 y)) (c2 : w.cell? ⟨b, 2, none⟩ = some (.int .i64 z)) : SaysAt w b op := by
  refine ⟨hb, fun j hj => ?_⟩
  have : j = 0 ∨ j = 1 ∨ j = 2 := by rw [hl] at hj; simp at hj; omega
  rcases this with rfl | rfl | rfl <;> simp [*]
theorem says2 {w : World} {b : Nat} {op x y : Int} (hb : b < w.heap.size) (hl : saysZ op = [x, y]) (c0 : w.cell? ⟨b, 0, none⟩ = some (.int .i64 x)) (c1 : w.cell? ⟨b, 1, none⟩ = some (.int .i64 y)) : SaysAt w b op := by
  refine ⟨hb, fun j hj => ?_⟩
  have : j = 0 ∨ j = 1 := by rw [hl] at hj; simp at hj; omega
  rcases this with rfl | rfl <;> simp [*]
theorem says1 {w : World} {b : Nat} {op x : Int} (hb : b < w.heap.size) (hl : saysZ op = [x]) (c0 : w.cell? ⟨b, 0, none⟩ = some (.int .i64 x)) : SaysAt w b op := by
  refine ⟨hb, fun j hj => ?_⟩
  have : j = 0 := by rw [hl] at hj; simp at hj; omega
  subst this; simp [*]

set_option maxHeartbeats 4000000 in
set_option maxRecDepth 100000 in
theorem known_yes (op : Int) (w : World) (ho : op = 1 ∨ op = 2 ∨ op = 3 ∨ op = 4 ∨ op = 5 ∨ op = 6 ∨ op = 7 ∨ op = 8) :
    Calls Tryz.prog 33 #[.int .i64 op] w fun e w' => ∃ b, e = .returned (.tuple #[.agg (kindCells op b), .bool true]) ∧ SaysAt w' b op ∧ Below w.heap.size w w' := by
  have HO : Hid (op = 1 ∨ op = 2 ∨ op = 3 ∨ op = 4 ∨ op = 5 ∨ op = 6 ∨ op = 7 ∨ op = 8) := ho
  clear ho
  have h1 : 1 ≤ op := by have := HO.out; omega
  have h8 : op < 9 := by have := HO.out; omega
  go_enter Tryz.func33, Tryz.ntmps33
  go_upto_region 2 with (with_reducible refine wpList_store_new (op := ⟨none, .store 101 (.tmp 4) (.tmp 21), 0, _, _, none⟩) ?ka1 101 (.tmp 4) (.tmp 21) ?ka2 ?kn 45 _ ?kc ?ka3 ?ka4 ?ka5 infoTable ?ka6 ?ka7 ?ka8 ?ka9)
  case ka3 => exact rfl
  case ka5 => exact rfl
  case ka1 => exact rfl
  case ka2 => exact rfl
  case ka4 => simp
  case ka6 => exact rfl
  case ka7 => exact rfl
  case ka8 => simp [Value.oneCell']
  rcases HO.out with rfl | rfl | rfl | rfl | rfl | rfl | rfl | rfl
  · go_wp2
    refine bodyPost_ret (v := .tuple #[.agg #[.string ⟨#[105, 110]⟩, .slice (some ⟨w.heap.size + 1, 0, none⟩) 3 3, .func (.func 43) #[] #[], .func (.func 44) #[] #[], .func (.func 45) #[] #[]], .bool true]) (by simp [results, Tryz.results33, go_sem]) rfl ⟨w.heap.size + 1, rfl, says3 (by first | omega | (simp; done) | (simp; omega)) rfl (by simp [go_sem]) (by simp [go_sem]) (by simp [go_sem]), ?_⟩
    exact Bl.more (Bl.more (Bl.more (Bl.more (Bl.more (Bl.more (Bl.more (Bl.more (Bl.more (Bl.more (Bl.refl _) _) _) _) _) _) _) _) _) _) _
  · go_wp2
    refine bodyPost_ret (v := .tuple #[.agg #[.string ⟨#[102, 105, 108, 108]⟩, .slice (some ⟨w.heap.size + 1 + 1, 0, none⟩) 3 3, .func (.func 46) #[] #[], .func (.func 47) #[] #[], .func (.func 48) #[] #[]], .bool true]) (by simp [results, Tryz.results33, go_sem]) rfl ⟨w.heap.size + 1 + 1, rfl, says3 (by first | omega | (simp; done) | (simp; omega)) rfl (by simp [go_sem]) (by simp [go_sem]) (by simp [go_sem]), ?_⟩
    exact Bl.more (Bl.more (Bl.more (Bl.more (Bl.more (Bl.more (Bl.more (Bl.more (Bl.more (Bl.more (Bl.refl _) _) _) _) _) _) _) _) _) _) _
  · go_wp2
    refine bodyPost_ret (v := .tuple #[.agg #[.string ⟨#[97, 100, 100]⟩, .slice (some ⟨w.heap.size + 1 + 1 + 1, 0, none⟩) 2 2, .func (.func 49) #[] #[], .func (.func 50) #[] #[], .func (.func 51) #[] #[]], .bool true]) (by simp [results, Tryz.results33, go_sem]) rfl ⟨w.heap.size + 1 + 1 + 1, rfl, says2 (by first | omega | (simp; done) | (simp; omega)) rfl (by simp [go_sem]) (by simp [go_sem]), ?_⟩
    exact Bl.more (Bl.more (Bl.more (Bl.more (Bl.more (Bl.more (Bl.more (Bl.more (Bl.more (Bl.more (Bl.refl _) _) _) _) _) _) _) _) _) _) _
  · go_wp2
    refine bodyPost_ret (v := .tuple #[.agg #[.string ⟨#[115, 117, 98]⟩, .slice (some ⟨w.heap.size + 1 + 1 + 1 + 1, 0, none⟩) 2 2, .func (.func 49) #[] #[], .func (.func 50) #[] #[], .func (.func 52) #[] #[]], .bool true]) (by simp [results, Tryz.results33, go_sem]) rfl ⟨w.heap.size + 1 + 1 + 1 + 1, rfl, says2 (by first | omega | (simp; done) | (simp; omega)) rfl (by simp [go_sem]) (by simp [go_sem]), ?_⟩
    exact Bl.more (Bl.more (Bl.more (Bl.more (Bl.more (Bl.more (Bl.more (Bl.more (Bl.more (Bl.more (Bl.refl _) _) _) _) _) _) _) _) _) _) _
  · go_wp2
    refine bodyPost_ret (v := .tuple #[.agg #[.string ⟨#[109, 117, 108]⟩, .slice (some ⟨w.heap.size + 1 + 1 + 1 + 1 + 1, 0, none⟩) 2 2, .func (.func 49) #[] #[], .func (.func 50) #[] #[], .func (.func 53) #[] #[]], .bool true]) (by simp [results, Tryz.results33, go_sem]) rfl ⟨w.heap.size + 1 + 1 + 1 + 1 + 1, rfl, says2 (by first | omega | (simp; done) | (simp; omega)) rfl (by simp [go_sem]) (by simp [go_sem]), ?_⟩
    exact Bl.more (Bl.more (Bl.more (Bl.more (Bl.more (Bl.more (Bl.more (Bl.more (Bl.more (Bl.more (Bl.refl _) _) _) _) _) _) _) _) _) _) _
  · go_wp2
    refine bodyPost_ret (v := .tuple #[.agg #[.string ⟨#[115, 99, 97, 108, 101]⟩, .slice (some ⟨w.heap.size + 1 + 1 + 1 + 1 + 1 + 1, 0, none⟩) 2 2, .func (.func 54) #[] #[], .func (.func 50) #[] #[], .func (.func 55) #[] #[]], .bool true]) (by simp [results, Tryz.results33, go_sem]) rfl ⟨w.heap.size + 1 + 1 + 1 + 1 + 1 + 1, rfl, says2 (by first | omega | (simp; done) | (simp; omega)) rfl (by simp [go_sem]) (by simp [go_sem]), ?_⟩
    exact Bl.more (Bl.more (Bl.more (Bl.more (Bl.more (Bl.more (Bl.more (Bl.more (Bl.more (Bl.more (Bl.refl _) _) _) _) _) _) _) _) _) _) _
  · go_wp2
    refine bodyPost_ret (v := .tuple #[.agg #[.string ⟨#[116, 105, 109, 101, 115]⟩, .slice (some ⟨w.heap.size + 1 + 1 + 1 + 1 + 1 + 1 + 1, 0, none⟩) 2 2, .func (.func 56) #[] #[], .func (.func 57) #[] #[], .func (.func 58) #[] #[]], .bool true]) (by simp [results, Tryz.results33, go_sem]) rfl ⟨w.heap.size + 1 + 1 + 1 + 1 + 1 + 1 + 1, rfl, says2 (by first | omega | (simp; done) | (simp; omega)) rfl (by simp [go_sem]) (by simp [go_sem]), ?_⟩
    exact Bl.more (Bl.more (Bl.more (Bl.more (Bl.more (Bl.more (Bl.more (Bl.more (Bl.more (Bl.more (Bl.refl _) _) _) _) _) _) _) _) _) _) _
  · go_wp2
    refine bodyPost_ret (v := .tuple #[.agg #[.string ⟨#[116, 117, 114, 110]⟩, .slice (some ⟨w.heap.size + 1 + 1 + 1 + 1 + 1 + 1 + 1 + 1, 0, none⟩) 1 1, .func (.func 59) #[] #[], .func (.func 50) #[] #[], .func (.func 60) #[] #[]], .bool true]) (by simp [results, Tryz.results33, go_sem]) rfl ⟨w.heap.size + 1 + 1 + 1 + 1 + 1 + 1 + 1 + 1, rfl, says1 (by first | omega | (simp; done) | (simp; omega)) rfl (by simp [go_sem]), ?_⟩
    exact Bl.more (Bl.more (Bl.more (Bl.more (Bl.more (Bl.more (Bl.more (Bl.more (Bl.more (Bl.more (Bl.refl _) _) _) _) _) _) _) _) _) _) _

set_option maxHeartbeats 4000000 in
set_option maxRecDepth 100000 in
theorem known_no (op : Int) (w : World) (ho : op < 1 ∨ 8 < op) :
    Calls Tryz.prog 33 #[.int .i64 op] w fun e w' => e = .returned (.tuple #[.agg #[.string ⟨#[]⟩, .slice none 0 0, .nilFunc, .nilFunc, .nilFunc], .bool false]) ∧ Below w.heap.size w w' := by
  have HO : Hid (op < 1 ∨ 8 < op) := ho
  clear ho
  go_enter Tryz.func33, Tryz.ntmps33
  go_upto_region 2 with (with_reducible refine wpList_store_new (op := ⟨none, .store 101 (.tmp 4) (.tmp 21), 0, _, _, none⟩) ?ka1 101 (.tmp 4) (.tmp 21) ?ka2 ?kn 45 _ ?kc ?ka3 ?ka4 ?ka5 infoTable ?ka6 ?ka7 ?ka8 ?ka9)
  case ka3 => exact rfl
  case ka5 => exact rfl
  case ka1 => exact rfl
  case ka2 => exact rfl
  case ka4 => simp
  case ka6 => exact rfl
  case ka7 => exact rfl
  case ka8 => simp [Value.oneCell']
  rcases HO.out with h | h
  all_goals
    go_wp2
    exact bodyPost_ret (v := .tuple #[.agg #[.string ⟨#[]⟩, .slice none 0 0, .nilFunc, .nilFunc, .nilFunc], .bool false]) (by simp [results, Tryz.results33, go_sem]) rfl ⟨rfl, by repeat (first | exact Bl.refl _ | refine Bl.more ?_ _)⟩
end Go.Proofs.YtlcmllmphpllbaaGreatDoor
