/- classes.NewForest, NewTable, (*Table).part and Key, joins.moved, walked. -/
import Derived.Test.YtanlmfcllebopaaJc
import Derived.Deep.RegionHeld3
import Derived.MakeChecks
namespace Go.Proofs.Ytanlmfcllebopaa
open Go.RowKit

theorem fInfo : (Try.prog.info? 3).map (fun i => (i.zero, i.size, i.bytes)) = some (some (.int .i64 0), 1, 8) := by kernel_rfl
theorem fUnder : Try.prog.underlying 68 = some (.slice 3) := by kernel_rfl
theorem jinfo_parts {P : Program} {t : TypeId} {z : Option Value} {a b : Nat} (h : (P.info? t).map (fun i => (i.zero, i.size, i.bytes)) = some (z, a, b)) : ∃ i, P.info? t = some i ∧ i.zero = z ∧ i.size = a ∧ i.bytes = b := by
  cases hi : P.info? t with
  | none => rw [hi] at h; cases h
  | some i =>
    rw [hi] at h
    simp only [Option.map_some, Option.some.injEq, Prod.mk.injEq] at h
    exact ⟨i, rfl, h.1, h.2.1, h.2.2⟩
theorem FAt.congr {w : World} {fb n : Nat} {p q : Nat → Nat} (h : FAt w fb n p) (e : ∀ i, i < n → p i = q i) : FAt w fb n q := by
  have : (List.range n).map (fun i => Value.int .i64 (p i : Int)) = (List.range n).map (fun i => Value.int .i64 (q i : Int)) := by
    apply List.map_congr_left
    intro i hi
    rw [e i (List.mem_range.1 hi)]
  unfold FAt at h ⊢
  rw [← this]
  exact h
set_option maxHeartbeats 1000000 in
theorem newForest_any (n : Nat) (w : World) (hn : n ≤ 1000) :
    Calls Try.prog 31 #[.int .i64 n] w fun e w' => e = .returned (.slice (some ⟨w.heap.size, 0, none⟩) n n) ∧ FAt w' w.heap.size n (fun i => i) ∧ Below w.heap.size w w' := by
  obtain ⟨i0, hi, hz0, hz1, hz2⟩ := jinfo_parts fInfo
  have HI : Hid (i0.zero = some (.int .i64 0) ∧ i0.size = 1 ∧ i0.bytes = 8 ∧ Try.prog.info? 3 = some i0) := ⟨hz0, hz1, hz2, hi⟩
  clear hi hz0 hz1 hz2
  go_enter Try.func31, Try.ntmps31
  go_wp2_with (at_make; refine wpList_make_full _ rfl (.tmp 5) (.tmp 5) 68 rfl 0 3 i0 (.int .i64 0) 1 fUnder HI.out.2.2.2 HI.out.1 HI.out.2.1 _ _ _ _ n rfl rfl rfl rfl ?b2 ?b3 ?b4 ?_)
  case b2 => rw [HI.out.2.2.1]; omega
  case b3 => unfold maxLen; omega
  case b4 => exact Nat.zero_le _
  intro w0 hown0 hgrow0
  have hF0 : FAt w0 w.heap.size n (fun i => if i < 0 then i else 0) := by
    unfold FAt
    have e : (madeCells #[Value.int .i64 0] n).toList = (List.range n).map fun i => Value.int .i64 (((if i < 0 then i else 0 : Nat)) : Int) := by
      rw [toList_madeCells_one]
      apply List.ext_getElem?
      intro i
      by_cases hi : i < n <;> simp [hi]
    rw [← e]
    exact hown0
  have hb0 : Below w.heap.size w w0 := ⟨hgrow0.os, hgrow0.tape, hgrow0.output, hgrow0.size, fun k hk => hgrow0.block k hk (by simp)⟩
  have HF0 : Hid (FAt w0 w.heap.size n (fun i => if i < 0 then i else 0)) := hF0
  clear hF0 hown0 hgrow0
  go_wp2
  go_loopw [9] (fun j wr => ∃ m : Nat, m ≤ n ∧ j = .int .i64 m ∧ FAt wr w.heap.size n (fun i => if i < m then i else 0) ∧ Below w.heap.size w wr) (fun j _ => n - (intOf j).toNat)
  case atStart => exact ⟨0, Nat.zero_le _, rfl, HF0.out, hb0⟩
  case round =>
    obtain ⟨m, hm, rfl, hf, hb⟩ := hrel
    have HF : Hid (FAt wr w.heap.size n (fun i => if i < m then i else 0)) := hf
    clear hf
    by_cases hlt : m < n
    · have c0 := HF.out.cell hlt
      have hfz := HF.out.frozen
      go_wp2
      go_roundw
      case rel =>
        refine ⟨m + 1, by omega, by go_num, (HF.out.set m m).congr fun i _ => ?_, hb.setCell (by exact Nat.le_refl _) _⟩
        by_cases e : i = m
        · subst e; simp [upd_same]
        · rw [upd_other _ _ e]
          by_cases h2 : i < m
          · rw [if_pos h2, if_pos (by omega)]
          · rw [if_neg h2, if_neg (by omega)]
      case measure => simp [intOf]; omega
    · have : m = n := by omega
      subst this
      go_wp2
      go_ret
      exact ⟨rfl, HF.out.congr fun i hi => by rw [if_pos hi], hb⟩
/-- a table in block tb: its forest (the variable in block xb), what moves a term, its map -/
structure TableAt (w : World) (tb xb fb n mb : Nat) : Prop where
  lt : tb < w.heap.size
  xlt : xb < w.heap.size
  x0 : w.cell? ⟨xb, 0, none⟩ = some (.slice (some ⟨fb, 0, none⟩) n n)
  c0 : w.cell? ⟨tb, 0, none⟩ = some (.pointer (some ⟨xb, 0, none⟩))
  cm : w.cell? ⟨tb, 1, none⟩ = some (.func (.func 34) #[] #[])
  c1 : w.cell? ⟨tb, 2, none⟩ = some (.map (some mb))
  fz : w.frozen? ⟨tb, 2, none⟩ = false
theorem TableAt.keeps {w w' : World} {tb xb fb n mb : Nat} {S : Nat → Prop} (h : TableAt w tb xb fb n mb) (hk : Keeps S w w') (hs : ¬ S tb) (hx : ¬ S xb) : TableAt w' tb xb fb n mb :=
  ⟨Nat.lt_of_lt_of_le h.lt hk.size, Nat.lt_of_lt_of_le h.xlt hk.size, (hk.cell (by exact h.xlt) hx).trans h.x0, (hk.cell (by exact h.lt) hs).trans h.c0, (hk.cell (by exact h.lt) hs).trans h.cm, (hk.cell (by exact h.lt) hs).trans h.c1, (hk.frozen (by exact h.lt) hs).trans h.fz⟩
set_option maxHeartbeats 1000000 in
theorem newTable_any (xb fb n : Nat) (w : World) (hx : xb < w.heap.size) (h0 : w.cell? ⟨xb, 0, none⟩ = some (.slice (some ⟨fb, 0, none⟩) n n)) :
    Calls Try.prog 33 #[.pointer (some ⟨xb, 0, none⟩), .func (.func 34) #[] #[]] w fun e w' => e = .returned (.pointer (some ⟨w.heap.size + 1, 0, none⟩)) ∧ TableAt w' (w.heap.size + 1) xb fb n w.heap.size ∧ w'.ownsMap (H := Unit) Try.prog 40 (plainElem Try.prog 3) w.heap.size 0 (.map []) ∧ Below w.heap.size w w' := by
  have hmm := @run_makeMap Try.prog
  have H0 : Hid (w.cell? ⟨xb, 0, none⟩ = some (.slice (some ⟨fb, 0, none⟩) n n)) := h0
  clear h0
  go_enter Try.func33, Try.ntmps33
  go_wp2
  go_ret
  refine ⟨rfl, ⟨by simp, by simp; omega, ?_, by simp [go_sem], by simp [go_sem], by simp [go_sem], by simp [go_sem]⟩, (World.ownsMap_made _ _ _ _).alloc _, by repeat (first | exact Bl.refl _ | refine Bl.more ?_ _)⟩
  exact (Below.cell (Bl.more (Bl.more (Bl.refl _) _) _) (by exact hx)).trans H0.out
set_option maxHeartbeats 1000000 in
theorem tpart_any (tb xb fb n mb : Nat) (p : Nat → Nat) (x : Int) (w : World) (ht : TableAt w tb xb fb n mb) (hf : FAt w fb n p) (hp : Tops p) (hx : PartOk n x) :
    Calls Try.prog 81 #[.pointer (some ⟨tb, 0, none⟩), .int .i64 x] w fun e w' => e = .returned (.int .i64 (cp (root p) x)) ∧ Up w w' fb n p := by
  have HF : Hid (FAt w fb n p) := hf
  clear hf
  by_cases hx1 : x = -1
  · subst hx1
    clear hx
    go_enter Try.func81, Try.ntmps81
    go_wp2
    go_ret
    exact ⟨ret_int (by simp [cp]), ⟨p, HF.out, hp, rfl⟩, Keeps.refl _ _⟩
  · obtain ⟨y, rfl⟩ : ∃ y : Nat, x = y := Int.eq_ofNat_of_zero_le (by rcases hx with h | h; exact absurd h hx1; exact h.1)
    have hy : y < n := by rcases hx with h | h <;> omega
    have HC : Hid (cp (root p) (y : Int) = ((root p y : Nat) : Int)) := by show cp _ _ = _; rw [cp, if_neg hx1, Int.toNat_natCast]
    have hb : ((y : Int) == -1) = false := by simp
    obtain ⟨t0, t1, t2, t3, t4, t5, t6⟩ := ht
    clear hx hx1
    go_enter Try.func81, Try.ntmps81
    go_wp2_with fail
    refine (root_any fb n p y _ HF.out hp hy).mono ?_
    rintro e w1 ⟨rfl, hu⟩
    go_wp2
    go_ret
    exact ⟨ret_int HC.out.symm, hu⟩
/-- a term as a value -/
def Tm.val (t : Tm) : Value := .agg #[.int .i64 t.op, .int .i64 t.k, .int .i64 t.a, .int .i64 t.b]
/-- a term in a block of its own -/
structure TmCell (w : World) (b : Nat) (t : Tm) : Prop where
  lt : b < w.heap.size
  c0 : w.cell? ⟨b, 0, none⟩ = some (.int .i64 t.op)
  c1 : w.cell? ⟨b, 1, none⟩ = some (.int .i64 t.k)
  c2 : w.cell? ⟨b, 2, none⟩ = some (.int .i64 t.a)
  c3 : w.cell? ⟨b, 3, none⟩ = some (.int .i64 t.b)
  fz : ∀ i, w.frozen? ⟨b, i, none⟩ = false
theorem TmCell.keeps {w w' : World} {b : Nat} {t : Tm} {S : Nat → Prop} (h : TmCell w b t) (hk : Keeps S w w') (hs : ¬ S b) : TmCell w' b t :=
  ⟨Nat.lt_of_lt_of_le h.lt hk.size, (hk.cell (by exact h.lt) hs).trans h.c0, (hk.cell (by exact h.lt) hs).trans h.c1, (hk.cell (by exact h.lt) hs).trans h.c2, (hk.cell (by exact h.lt) hs).trans h.c3, fun i => (hk.frozen (by exact h.lt) hs).trans (h.fz i)⟩
set_option maxHeartbeats 2000000 in
set_option maxRecDepth 100000 in
theorem moved_any (tb xb fb n mb : Nat) (p : Nat → Nat) (t : Tm) (w : World) (ht : TableAt w tb xb fb n mb) (hf : FAt w fb n p) (hp : Tops p) (ha : PartOk n t.a) (hb : PartOk n t.b) (hne : tb ≠ fb) (hxe : xb ≠ fb) :
    Calls Try.prog 34 #[.agg #[.int .i64 t.op, .int .i64 t.k, .int .i64 t.a, .int .i64 t.b], .func (.func 81) #[.pointer (some ⟨tb, 0, none⟩)] #[]] w fun e w' => e = .returned (.agg #[.int .i64 t.op, .int .i64 t.k, .int .i64 (cp (root p) t.a), .int .i64 (cp (root p) t.b)]) ∧ Up w w' fb n p := by
  have HF : Hid (FAt w fb n p) := hf
  have HT : Hid (TableAt w tb xb fb n mb) := ht
  have HX : Hid (PartOk n t.a ∧ PartOk n t.b) := ⟨ha, hb⟩
  have hl := hf.lt
  clear hf ht ha hb
  go_enter Try.func34, Try.ntmps34
  go_wp2
  go_region_with (first | (go_at_call_of 81 (t.a); refine (tpart_any tb xb fb n mb p t.a _ (HT.out.keeps (S := fun k => k = fb) ?_ hne hxe) (HF.out.keeps (S := fun _ => False) ?_ id) hp HX.out.1).mono ?_; (exact Keeps.of_below (by repeat (first | exact Bl.refl _ | refine Bl.more ?_ _ | refine Below.drew ?_))); (exact Keeps.of_below (by repeat (first | exact Bl.refl _ | refine Bl.more ?_ _ | refine Below.drew ?_))); rintro e w3 ⟨rfl, ⟨p3, f3, t3, r3⟩, k3⟩; have HK3 : Hid (Keeps (fun k => k = fb) w w3) := Keeps.trans (Keeps.of_below (by repeat (first | exact Bl.refl _ | refine Bl.more ?_ _ | refine Below.drew ?_))) k3; have HF3 : Hid (FAt w3 fb n p3 ∧ Tops p3 ∧ root p3 = root p) := ⟨f3, t3, r3⟩; have HC3 : Hid (TmCell w3 w.heap.size t) := TmCell.keeps ⟨by simp; omega, by simp [go_sem], by simp [go_sem], by simp [go_sem], by simp [go_sem], by simp [go_sem]⟩ k3 (by omega); have HZ3 : Hid (TmCell w3 (w.heap.size + 1) zeroTm) := TmCell.keeps ⟨by simp, by simp [go_sem, zeroTm], by simp [go_sem, zeroTm], by simp [go_sem, zeroTm], by simp [go_sem, zeroTm], by simp [go_sem]⟩ k3 (by omega); clear k3 f3 t3 r3; obtain ⟨_, q0, q1, q2, q3, qf⟩ := HC3.out) | (go_at_call_of 81 (t.b); refine (tpart_any tb xb fb n mb p3 t.b _ (HT.out.keeps HK3.out hne hxe) HF3.out.1 HF3.out.2.1 HX.out.2).mono ?_; rintro e w4 ⟨rfl, ⟨p4, f4, t4, r4⟩, k4⟩; have HK4 : Hid (Keeps (fun k => k = fb) w w4) := HK3.out.trans k4; have HF4 : Hid (FAt w4 fb n p4 ∧ Tops p4 ∧ root p4 = root p) := ⟨f4, t4, r4.trans HF3.out.2.2⟩; have HC4 : Hid (TmCell w4 w.heap.size t) := HC3.out.keeps k4 (by omega); have HZ4 : Hid (TmCell w4 (w.heap.size + 1) zeroTm) := HZ3.out.keeps k4 (by omega); clear k4 f4 t4 r4; obtain ⟨_, u0, u1, u2, u3, uf⟩ := HC4.out; obtain ⟨_, z0, z1, z2, z3, zf⟩ := HZ4.out) | fail)
  all_goals
    go_wp2
    refine bodyPost_ret (v := .agg #[.int .i64 t.op, .int .i64 t.k, .int .i64 (cp (root p) t.a), .int .i64 (cp (root p) t.b)]) ?_ rfl ⟨rfl, ⟨p4, ?_, HF4.out.2.1, HF4.out.2.2⟩, ?_⟩
    · rw [HF3.out.2.2]; simp [results, Try.results34, go_sem, z0, z1, z2, z3]
    · exact HF4.out.1.keeps (S := fun k => k = w.heap.size ∨ k = w.heap.size + 1) ((((((((Keeps.refl _ _).setCell (.inl (.inl rfl)) _).setCell (.inl (.inl rfl)) _).setCell (.inl (.inr rfl)) _).setCell (.inl (.inr rfl)) _).setCell (.inl (.inr rfl)) _).setCell (.inl (.inr rfl)) _)) (by omega)
    · exact (((((HK4.out.setCell (.inr (Nat.le_refl _)) _).setCell (.inr (Nat.le_refl _)) _).setCell (.inr (Nat.le_succ _)) _).setCell (.inr (Nat.le_succ _)) _).setCell (.inr (Nat.le_succ _)) _).setCell (.inr (Nat.le_succ _)) _
/-- a term that was boxed: what a call that only works in the forest leaves of it -/
theorem tmcell_box (w : World) (t : Tm) : TmCell (w.alloc (.cells #[.int .i64 t.op, .int .i64 t.k, .int .i64 t.a, .int .i64 t.b] 40)) w.heap.size t := ⟨by simp, by simp [go_sem], by simp [go_sem], by simp [go_sem], by simp [go_sem], by simp [go_sem]⟩
set_option maxHeartbeats 2000000 in
set_option maxRecDepth 100000 in
theorem key_any (tb xb fb n mb : Nat) (p : Nat → Nat) (t : Tm) (w : World) (ht : TableAt w tb xb fb n mb) (hf : FAt w fb n p) (hp : Tops p) (ha : PartOk n t.a) (hb : PartOk n t.b) (hne : tb ≠ fb) (hxe : xb ≠ fb) :
    Calls Try.prog 74 #[.pointer (some ⟨tb, 0, none⟩), .agg #[.int .i64 t.op, .int .i64 t.k, .int .i64 t.a, .int .i64 t.b]] w fun e w' => e = .returned (.agg #[.int .i64 t.op, .int .i64 t.k, .int .i64 (cp (root p) t.a), .int .i64 (cp (root p) t.b)]) ∧ Up w w' fb n p := by
  have HF : Hid (FAt w fb n p) := hf
  have HT : Hid (TableAt w tb xb fb n mb) := ht
  have HX : Hid (PartOk n t.a ∧ PartOk n t.b) := ⟨ha, hb⟩
  have hl := hf.lt
  obtain ⟨t0, t1, t2, t3, t4, t5, t6⟩ := ht
  have hal := al2 t0
  clear hf ha hb
  have hmf : ∀ (fn : Fn) (first cap : Array Value) (w : World), (Instr.makeFunc fn first cap).run Try.prog w = .ok (.func fn first cap) w := fun _ _ _ _ => rfl
  go_enter Try.func74, Try.ntmps74
  go_wp2
  refine wp_region_held_drew (S := fun w' => w'.cell? ⟨tb, 1, none⟩ = some (.func (.func 34) #[] #[]) ∧ w'.cell? ⟨w.heap.size, 0, none⟩ = some (.int .i64 t.op) ∧ w'.cell? ⟨w.heap.size, 1, none⟩ = some (.int .i64 t.k) ∧ w'.cell? ⟨w.heap.size, 2, none⟩ = some (.int .i64 t.a) ∧ w'.cell? ⟨w.heap.size, 3, none⟩ = some (.int .i64 t.b)) (by kernel_rfl) (by refine ⟨?_, ?_, ?_, ?_, ?_⟩ <;> simp [go_sem, hal, t4]) (fun hHeld => ?_)
  refine wpAnyH_take (i := 0) (v := ?tv1) rfl (by kernel_rfl) (by kernel_rfl) (by kernel_rfl) (fun _ _ _ h => h) (Or.inl ⟨by rfl, ?ty1⟩) (by assumption) ?tr1
  case ty1 => (intro w hSw; (try dsimp only at hSw); first | (go_simp; done) | (go_simp; with_reducible rfl) | (simp only [hmf]; done))
  try simp only [Act.put]
  refine wpAnyH_take (i := 1) (v := ?tv2) rfl (by kernel_rfl) (by kernel_rfl) (by kernel_rfl) (fun _ _ _ h => h) (Or.inl ⟨by rfl, ?ty2⟩) (by assumption) ?tr2
  case ty2 => (intro w hSw; (try dsimp only at hSw); first | (go_simp; done) | (go_simp; with_reducible rfl) | (simp only [hmf]; done))
  try simp only [Act.put]
  refine wpAnyH_take (i := 2) (v := ?tv3) rfl (by kernel_rfl) (by kernel_rfl) (by kernel_rfl) (fun _ _ _ h => h) (Or.inl ⟨by rfl, ?ty3⟩) (by assumption) ?tr3
  case ty3 => (intro w hSw; (try dsimp only at hSw); first | (go_simp; done) | (go_simp; with_reducible rfl) | (simp only [hmf]; done))
  try simp only [Act.put]
  refine wpAnyH_take (i := 3) (v := ?tv4) rfl (by kernel_rfl) (by kernel_rfl) (by kernel_rfl) (fun _ _ _ h => h) (Or.inl ⟨by rfl, ?ty4⟩) (by assumption) ?tr4
  case ty4 => (intro w hSw; (try dsimp only at hSw); first | (go_simp; done) | (go_simp; with_reducible rfl) | (simp only [hmf]; done))
  try simp only [Act.put]
  refine wpAnyH_take (i := 4) (v := ?tv5) rfl (by kernel_rfl) (by kernel_rfl) (by kernel_rfl) (fun _ _ _ h => h) (Or.inl ⟨by rfl, ?ty5⟩) (by assumption) ?tr5
  case ty5 => (intro w hSw; (try dsimp only at hSw); first | (go_simp; done) | (go_simp; with_reducible rfl) | (simp only [hmf]; done))
  try simp only [Act.put]
  refine wpAnyH_take (i := 5) (v := ?tv6) rfl (by kernel_rfl) (by kernel_rfl) (by kernel_rfl) (fun _ _ _ h => h) (Or.inl ⟨by rfl, ?ty6⟩) (by assumption) ?tr6
  case ty6 => (intro w hSw; (try dsimp only at hSw); first | (go_simp; done) | (go_simp; with_reducible rfl) | (simp only [hmf]; done))
  try simp only [Act.put]
  refine wpAnyH_take (i := 6) (v := ?tv7) rfl (by kernel_rfl) (by kernel_rfl) (by kernel_rfl) (fun _ _ _ h => h) (Or.inl ⟨by rfl, ?ty7⟩) (by assumption) ?tr7
  case ty7 => (intro w hSw; (try dsimp only at hSw); first | (go_simp; done) | (go_simp; with_reducible rfl) | (simp only [hmf]; done))
  try simp only [Act.put]
  refine wpAnyH_ready (rs := [7]) (by kernel_rfl) (by simp) ?_
  refine AllReadyH.cons rfl (fun K hK => ?_) AllReadyH.nil
  go_simp
  go_at_call 34
  refine (moved_any tb xb fb n mb p t _ (HT.out.keeps (S := fun k => k = fb) ?_ hne hxe) (HF.out.keeps (S := fun _ => False) ?_ id) hp HX.out.1 HX.out.2 hne hxe).mono ?_
  · exact Keeps.of_below (by repeat (first | exact Bl.refl _ | refine Bl.more ?_ _ | refine Below.drew ?_))
  · exact Keeps.of_below (by repeat (first | exact Bl.refl _ | refine Bl.more ?_ _ | refine Below.drew ?_))
  rintro e w3 ⟨rfl, ⟨p3, f3, t3, r3⟩, k3⟩
  have HK3 : Hid (Keeps (fun k => k = fb) w w3) := Keeps.trans (Keeps.of_below (by repeat (first | exact Bl.refl _ | refine Bl.more ?_ _ | refine Below.drew ?_))) k3
  have HF3 : Hid (FAt w3 fb n p3 ∧ Tops p3 ∧ root p3 = root p) := ⟨f3, t3, r3⟩
  have HZ3 : Hid (TmCell w3 (w.heap.size + 1) zeroTm) := TmCell.keeps ⟨by simp, by simp [go_sem, zeroTm], by simp [go_sem, zeroTm], by simp [go_sem, zeroTm], by simp [go_sem, zeroTm], by simp [go_sem]⟩ k3 (by omega)
  have HC3 : Hid (TmCell w3 w.heap.size t) := TmCell.keeps ⟨by simp; omega, by simp [go_sem], by simp [go_sem], by simp [go_sem], by simp [go_sem], by simp [go_sem]⟩ k3 (by omega)
  clear k3 f3 t3 r3
  obtain ⟨_, z0, z1, z2, z3, zf⟩ := HZ3.out
  obtain ⟨_, q0, q1, q2, q3, qf⟩ := HC3.out
  have qm := (HT.out.keeps HK3.out hne hxe).cm
  refine hK.out _ _ (by first | exact ⟨qm, q0, q1, q2, q3⟩ | (refine ⟨?_, ?_, ?_, ?_, ?_⟩ <;> simp [go_sem, qm, q0, q1, q2, q3])) (fun hHeld => ?_)
  clear hK K
  try simp only [Act.put]
  refine wpAnyH_ready (rs := [8]) (by kernel_rfl) (by simp) ?_
  refine AllReadyH.cons rfl (fun K hK => ?_) AllReadyH.nil
  go_simp
  refine hK.out _ _ (by refine ⟨?_, ?_, ?_, ?_, ?_⟩ <;> simp [go_sem, qm, q0, q1, q2, q3]) (fun hHeld => ?_)
  clear hK K
  try simp only [Act.put]
  refine wpAnyH_done (by kernel_rfl) ?_ _
  clear hHeld t0 t1 t2 t3 t4 t5 t6 hal hmf q0 q1 q2 q3 qm qf
  all_goals
    go_wp2
    refine bodyPost_ret (v := .agg #[.int .i64 t.op, .int .i64 t.k, .int .i64 (cp (root p) t.a), .int .i64 (cp (root p) t.b)]) ?_ rfl ⟨rfl, ⟨p3, ?_, HF3.out.2.1, HF3.out.2.2⟩, ?_⟩
    · simp [results, Try.results74, go_sem, z0, z1, z2, z3]
    · refine HF3.out.1.keeps (S := fun k => k = w.heap.size + 1) ?_ (by omega)
      refine Keeps.setCell (S := fun k => k = w.heap.size + 1) (p := ⟨w.heap.size + 1, 3, none⟩) ?_ (.inl rfl) _
      refine Keeps.setCell (S := fun k => k = w.heap.size + 1) (p := ⟨w.heap.size + 1, 2, none⟩) ?_ (.inl rfl) _
      refine Keeps.setCell (S := fun k => k = w.heap.size + 1) (p := ⟨w.heap.size + 1, 1, none⟩) ?_ (.inl rfl) _
      refine Keeps.setCell (S := fun k => k = w.heap.size + 1) (p := ⟨w.heap.size + 1, 0, none⟩) ?_ (.inl rfl) _
      exact Keeps.refl _ _
    · refine Keeps.setCell (S := fun k => k = fb) (p := ⟨w.heap.size + 1, 3, none⟩) ?_ (.inr (Nat.le_succ _)) _
      refine Keeps.setCell (S := fun k => k = fb) (p := ⟨w.heap.size + 1, 2, none⟩) ?_ (.inr (Nat.le_succ _)) _
      refine Keeps.setCell (S := fun k => k = fb) (p := ⟨w.heap.size + 1, 1, none⟩) ?_ (.inr (Nat.le_succ _)) _
      refine Keeps.setCell (S := fun k => k = fb) (p := ⟨w.heap.size + 1, 0, none⟩) ?_ (.inr (Nat.le_succ _)) _
      exact HK3.out
end Go.Proofs.Ytanlmfcllebopaa
