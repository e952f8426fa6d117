/- joins.Join, walked. -/
import Derived.Test.YtanlmfcllebopaaJh
namespace Go.Proofs.Ytanlmfcllebopaa
open Go.RowKit Go.Maps

theorem jUnderInts : Try.prog.underlying 26 = some (.slice 3) := by kernel_rfl
/-- the pairs joined so far -/
structure PInv (ts : List Tm) (ps : List (Int × Int)) (xb fb : Nat) (w wr : World) (k : Nat) (q : Nat → Nat) : Prop where
  f : FAt wr fb ts.length q
  tops : Tops q
  sound : Sound ts ps (root q)
  pair : ∀ j, (h : j < ps.length) → j < k → root q ps[j].1.toNat = root q ps[j].2.toNat
  xlt : xb < wr.heap.size
  x0 : wr.cell? ⟨xb, 0, none⟩ = some (.slice (some ⟨fb, 0, none⟩) ts.length ts.length)
  below : Below w.heap.size w wr
/-- the terms kept so far -/
structure TInv (ts : List Tm) (ps : List (Int × Int)) (tb xb fb mb : Nat) (w wr : World) (i : Nat) (q : Nat → Nat) (M : Tm → Option Nat) : Prop where
  t : TableAt wr tb xb fb ts.length mb
  f : FAt wr fb ts.length q
  tops : Tops q
  map : MapIs wr mb i M
  sound : Sound ts ps (root q)
  holds : Holds ts ps M
  pair : ∀ z ∈ ps, root q z.1.toNat = root q z.2.toNat
  covers : ∀ j, j < i → Covers M (root q) (tm ts j) j
  below : Below w.heap.size w wr
theorem PInv.next {ts : List Tm} {ps : List (Int × Int)} {xb fb : Nat} {w wr w1 w2 : World} {k x y : Nat} {q : Nat → Nat} (h : PInv ts ps xb fb w wr k q) (hk : k < ps.length) (hx : ps[k].1 = x) (hy : ps[k].2 = y) (hfb : w.heap.size ≤ fb) (hxe : xb ≠ fb) (hb : Below wr.heap.size wr w1) (g : Joined' w1 w2 fb ts.length (joinR (root q) x y)) : ∃ q', PInv ts ps xb fb w w2 (k + 1) q' := by
  obtain ⟨⟨q', g1, g2, g3⟩, g4⟩ := g
  refine ⟨q', g1, g2, ?_, fun j hj hjk => ?_, Nat.lt_of_lt_of_le (Nat.lt_of_lt_of_le h.xlt hb.size) g4.size, (g4.cell (by exact Nat.lt_of_lt_of_le h.xlt hb.size) hxe).trans ((hb.cell (by exact h.xlt)).trans h.x0), (h.below.trans (hb.mono h.below.size)).trans (g4.below (Nat.le_trans h.below.size hb.size) (fun k hk e => by omega))⟩
  · rw [g3]
    refine h.sound.join fun E hE => ?_
    have := hE.pair ps[k] (List.getElem_mem hk)
    rw [hx, hy] at this
    simpa using this
  · rw [g3]
    by_cases e : j = k
    · subst e
      rw [hx, hy]
      simpa using joinR_both (root q) x y
    · exact coarser_join _ _ _ _ _ (h.pair j hj (by omega))
theorem TInv.next {ts : List Tm} {ps : List (Int × Int)} {tb xb fb mb : Nat} {w wr w1 w2 : World} {i : Nat} {q q' : Nat → Nat} {M M' : Tm → Option Nat} {b : Bool} (h : TInv ts ps tb xb fb mb w wr i q M) (hR : Right ts ps) (hi : i < ts.length) (hfb : w.heap.size ≤ fb) (hmb : w.heap.size ≤ mb) (h1 : tb ≠ fb) (h2 : tb ≠ mb) (h3 : xb ≠ fb) (h4 : xb ≠ mb)
    (hb : Below wr.heap.size wr w1) (g : KeepPost q M (tm ts i) i fb ts.length mb i w1 b w2 q' M') : TInv ts ps tb xb fb mb w w2 (i + 1) q' M' := by
  have hk : KeptHow (root q) M (tm ts i) i b (root q') M' := g.how
  obtain ⟨k1, k2, k3, k4, k5, _, _, _⟩ := hk.sound h.sound h.holds (hR.stands hi)
  refine ⟨(h.t.keeps (S := fun _ => False) (Keeps.of_below hb) id id).keeps g.keeps (by omega) (by omega), g.f, g.tops, g.map, k1, k2, fun z hz => k3 _ _ (h.pair z hz), fun j hj => ?_, (h.below.trans (hb.mono h.below.size)).trans (g.keeps.below (Nat.le_trans h.below.size hb.size) (fun k hk e => by omega))⟩
  by_cases e : j = i
  · subst e; exact k4
  · exact k5 _ _ (h.covers j (by omega))
set_option maxHeartbeats 4000000 in
set_option maxRecDepth 100000 in
theorem pjoin_any (ts : List Tm) (ps : List (Int × Int)) (ao bo : Option Addr) (ca cb : Nat) (w : World) (hT : Terms w ao ts) (hP : Pairs w bo ps) (hR : Right ts ps) (hW : ∀ i, i < ts.length → TmWf (tm ts i)) :
    Calls Try.prog 20 #[.slice ao ts.length ca, .slice bo ps.length cb] w fun e w' => ∃ g r, e = .returned (.slice (some ⟨g, 0, none⟩) ts.length ts.length) ∧ w.heap.size ≤ g ∧ FAt w' g ts.length r ∧ Best ts ps r ∧ Below w.heap.size w w' := by
  have hn : ts.length ≤ 200 := hR.n
  have hpn : ps.length ≤ 200 := hR.m
  have HT : Hid (Terms w ao ts) := hT
  have HP : Hid (Pairs w bo ps) := hP
  have HR : Hid (Right ts ps ∧ ∀ i, i < ts.length → TmWf (tm ts i)) := ⟨hR, hW⟩
  clear hT hP hR hW
  obtain ⟨i0, hi, hz0, hz1, hz2⟩ := jinfo_parts fInfo
  have HI : Hid (i0.zero = some (.int .i64 0) ∧ i0.size = 1 ∧ i0.bytes = 8 ∧ Try.prog.info? 3 = some i0) := ⟨hz0, hz1, hz2, hi⟩
  clear hi hz0 hz1 hz2
  go_enter Try.func20, Try.ntmps20
  go_wp2_with fail
  refine (newForest_any ts.length _ (by omega)).mono ?_
  rintro e w1 ⟨rfl, hf1, hb1⟩
  have hx1 : w.heap.size < w1.heap.size := hf1.lt
  have H1 : Hid (PInv ts ps w1.heap.size w.heap.size w (w1.alloc (.cells #[.slice (some ⟨w.heap.size, 0, none⟩) ts.length ts.length] 68)) 0 (fun i => i)) := ⟨hf1.keeps (S := fun _ => False) (Keeps.of_below (Bl.more (Bl.refl _) _)) id, fun i => Nat.le_refl i, sound_id ts ps, fun j _ h => absurd h (Nat.not_lt_zero _), by simp, by simp [go_sem], Bl.more hb1 _⟩
  clear hf1 hb1
  go_wp2
  go_loopw [18] (fun v wr => ∃ (k : Nat) (q : Nat → Nat), v = .int .i64 (k : Int) ∧ k ≤ ps.length ∧ PInv ts ps w1.heap.size w.heap.size w wr k q) (fun v _ => ps.length - (intOf v).toNat)
  case atStart => exact ⟨0, _, rfl, Nat.zero_le _, H1.out⟩
  case round =>
    obtain ⟨k, q, rfl, hk, hI⟩ := hrel
    have HI1 : Hid (PInv ts ps w1.heap.size w.heap.size w wr k q) := hI
    clear hI
    by_cases hlt : k < ps.length
    · obtain ⟨b, off, rfl, hbs, c0, c1⟩ := HP.out.below HI1.out.below k hlt
      obtain ⟨⟨x1, x2⟩, y1, y2⟩ := HR.out.1.pair _ (List.getElem_mem hlt)
      obtain ⟨x, hx⟩ := Int.eq_ofNat_of_zero_le x1
      obtain ⟨y, hy⟩ := Int.eq_ofNat_of_zero_le y1
      have HXY : Hid (ps[k].1 = x ∧ ps[k].2 = y) := ⟨hx, hy⟩
      rw [hx] at c0 x2
      rw [hy] at c1 y2
      clear x1 y1 hx hy
      have hal := al1 hbs
      have hxl := HI1.out.xlt
      have hxc := HI1.out.x0
      have hxa := al1 hxl
      go_wp2_with (first
        | (go_at_call 32; refine (fjoin_any w.heap.size ts.length q x y _ (HI1.out.f.keeps (S := fun _ => False) (Keeps.of_below (Bl.more (Bl.refl _) _)) id) HI1.out.tops (by omega) (by omega)).mono ?_; rintro e w2 ⟨rfl, hJ⟩; have HJ : Hid (Joined' _ w2 w.heap.size ts.length (joinR (root q) x y)) := hJ; clear hJ)
        | go_in)
      go_roundw
      case rel =>
        obtain ⟨q', hq'⟩ := HI1.out.next hlt HXY.out.1 HXY.out.2 (Nat.le_refl _) (by omega) (Bl.more (Bl.refl _) _) HJ.out
        exact ⟨k + 1, q', by go_num, by omega, hq'⟩
      case measure => simp [intOf]; omega
    · have hke : k = ps.length := by omega
      subst hke
      clear hk hlt
      have hsz : w.heap.size < wr.heap.size := HI1.out.f.lt
      go_wp2_with fail
      have hxl : w1.heap.size < wr.heap.size := HI1.out.xlt
      refine (newTable_any w1.heap.size w.heap.size ts.length _ hxl HI1.out.x0).mono ?_
      rintro e w2 ⟨rfl, ht2, ho2, hb2⟩
      have H2 : Hid (TInv ts ps (wr.heap.size + 1) w1.heap.size w.heap.size wr.heap.size w w2 0 q (fun _ => none)) := ⟨ht2, HI1.out.f.keeps (S := fun _ => False) (Keeps.of_below hb2) id, HI1.out.tops, ⟨_, ho2, mapD_empty⟩, HI1.out.sound, fun _ _ h => (by cases h), fun z hz => (by obtain ⟨j, hj, rfl⟩ := List.getElem_of_mem hz; exact HI1.out.pair j hj hj), fun j h => absurd h (Nat.not_lt_zero _), Bl.trans HI1.out.below hb2⟩
      clear ht2 ho2 hb2
      generalize hB : wr.heap.size = B at *
      clear hB
      go_wp2
      go_loopw [32] (fun v wr => ∃ (i : Nat) (q : Nat → Nat) (M : Tm → Option Nat), v = .int .i64 (i : Int) ∧ i ≤ ts.length ∧ TInv ts ps (B + 1) w1.heap.size w.heap.size B w wr i q M) (fun v _ => ts.length - (intOf v).toNat)
      case atStart => exact ⟨0, q, _, rfl, Nat.zero_le _, H2.out⟩
      case round =>
        rename_i wr1
        obtain ⟨i, q, M, rfl, hi, hI⟩ := hrel
        have HI2 : Hid (TInv ts ps (B + 1) w1.heap.size w.heap.size B w wr i q M) := hI
        clear hI
        by_cases hlt : i < ts.length
        · obtain ⟨b, off, rfl, hbs, c0, c1, c2, c3⟩ := HT.out.below HI2.out.below i hlt
          have hal := al1 hbs
          have HX : Hid (Stands ts ps ts[i] i ∧ TmWf ts[i] ∧ tm ts i = ts[i]) := by
            have e := tm_at hlt
            have s := HR.out.1.stands hlt
            have g := HR.out.2 i hlt
            rw [e] at s g
            exact ⟨s, g, e⟩
          go_wp2_with (first
            | (go_at_call 35; refine (tput_any (B + 1) w1.heap.size w.heap.size ts.length B i q M ts[i] i _ (HI2.out.t.keeps (S := fun _ => False) (Keeps.of_below (Bl.more (Bl.refl _) _)) id id) (HI2.out.f.keeps (S := fun _ => False) (Keeps.of_below (Bl.more (Bl.refl _) _)) id) HI2.out.tops (HI2.out.map.keeps (S := fun _ => False) (Keeps.of_below (Bl.more (Bl.refl _) _)) id) (by omega) (by omega) HX.out.2.1 HX.out.1.a HX.out.1.b hlt (fun k c hc => (HI2.out.holds k c hc).lt) (by omega) (by omega) (by omega) (by omega) (by omega)).mono ?_; rintro e w3 ⟨rfl, b3, q', M', hK⟩; have HK : Hid (KeepPost q M ts[i] i w.heap.size ts.length B i _ b3 w3 q' M') := hK; clear hK)
            | go_in)
          go_roundw
          case rel =>
            have hK := HK.out
            rw [← HX.out.2.2] at hK
            exact ⟨i + 1, q', M', by go_num, by omega, HI2.out.next HR.out.1 hlt (Nat.le_refl _) (by omega) (by omega) (by omega) (by omega) (by omega) (Bl.more (Bl.refl _) _) hK⟩
          case measure => simp [intOf]; omega
        · have hie : i = ts.length := by omega
          subst hie
          clear hi hlt
          have HC : Hid (CInv ts ps (B + 1) w1.heap.size w.heap.size ts.length wr B q M) := ⟨HI2.out.t, HI2.out.f, HI2.out.tops, HI2.out.map, HI2.out.sound, HI2.out.holds, HI2.out.pair, HI2.out.covers, by omega, by omega⟩
          go_wp2_with fail
          refine (close_any ts ps (B + 1) w1.heap.size w.heap.size B ts.length q M _ HC.out (by omega) (by omega) (by omega) (by omega) (by omega)).mono ?_
          rintro e w4 ⟨rfl, r, hf4, ht4, hB4, hk4⟩
          have HB4 : Hid (Best ts ps (root r)) := hB4
          have hxl4 : w1.heap.size < w4.heap.size := Nat.lt_of_lt_of_le HI2.out.t.xlt hk4.size
          have HX4 : Hid (w4.cell? ⟨w1.heap.size, 0, none⟩ = some (.slice (some ⟨w.heap.size, 0, none⟩) ts.length ts.length)) := (hk4.cell (by exact HI2.out.t.xlt) (by dsimp only; omega)).trans HI2.out.t.x0
          have H4 : Hid (FAt w4 w.heap.size ts.length r ∧ Tops r ∧ Below w.heap.size w w4) := ⟨hf4, ht4, HI2.out.below.trans (hk4.below HI2.out.below.size (fun k hk e => by omega))⟩
          clear hf4 ht4 hk4 hB4
          have hs4 : w.heap.size < w4.heap.size := H4.out.1.lt
          go_wp2_with (at_make; refine wpList_make_full _ rfl (.tmp 45) (.tmp 45) 26 rfl 0 3 i0 (.int .i64 0) 1 jUnderInts HI.out.2.2.2 HI.out.1 HI.out.2.1 _ _ _ _ ts.length rfl rfl rfl rfl ?b2 ?b3 ?b4 ?_)
          case b2 => rw [HI.out.2.2.1]; omega
          case b3 => unfold maxLen; omega
          case b4 => exact Nat.zero_le _
          intro w5 hown5 hgrow5
          have hF5 : FAt w5 w4.heap.size ts.length (fun i => if i < 0 then root r i else 0) := by
            unfold FAt
            have e : (madeCells #[Value.int .i64 0] ts.length).toList = (List.range ts.length).map fun i => Value.int .i64 (((if i < 0 then root r i else 0 : Nat)) : Int) := by
              rw [toList_madeCells_one]
              apply List.ext_getElem?
              intro i
              by_cases hi : i < ts.length <;> simp [hi]
            rw [← e]
            exact hown5
          have hb5 : Below w4.heap.size w4 w5 := ⟨hgrow5.os, hgrow5.tape, hgrow5.output, hgrow5.size, fun k hk => hgrow5.block k hk (by simp)⟩
          have H5 : Hid (FAt w5 w4.heap.size ts.length (fun i => if i < 0 then root r i else 0) ∧ FAt w5 w.heap.size ts.length r ∧ Tops r ∧ Below w.heap.size w w5) := ⟨hF5, H4.out.1.keeps (S := fun _ => False) (Keeps.of_below hb5) id, H4.out.2.1, Bl.trans H4.out.2.2 hb5⟩
          have HX5 : Hid (w5.cell? ⟨w1.heap.size, 0, none⟩ = some (.slice (some ⟨w.heap.size, 0, none⟩) ts.length ts.length)) := (hb5.cell (by exact hxl4)).trans HX4.out
          clear hF5 hb5 hown5 hgrow5 HX4
          have hxG : w1.heap.size < w4.heap.size := hxl4
          generalize hG : w4.heap.size = G at *
          clear hG
          go_wp2
          go_loopw [49] (fun v wr => ∃ (i : Nat) (q : Nat → Nat), v = .int .i64 (i : Int) ∧ i ≤ ts.length ∧ FAt wr G ts.length (fun j => if j < i then root r j else 0) ∧ FAt wr w.heap.size ts.length q ∧ Tops q ∧ root q = root r ∧ Hid (wr.cell? ⟨w1.heap.size, 0, none⟩ = some (.slice (some ⟨w.heap.size, 0, none⟩) ts.length ts.length)) ∧ w1.heap.size < wr.heap.size ∧ Below w.heap.size w wr) (fun v _ => ts.length - (intOf v).toNat)
          case atStart => exact ⟨0, r, rfl, Nat.zero_le _, H5.out.1, H5.out.2.1, H5.out.2.2.1, rfl, HX5, by have := H5.out.1.lt; omega, H5.out.2.2.2⟩
          case round =>
            obtain ⟨i, q, rfl, hi, hg, hq, htq, hrq, HXr, hxr, hbw⟩ := hrel
            have HG : Hid (FAt wr G ts.length (fun j => if j < i then root r j else 0)) := hg
            have HQ : Hid (FAt wr w.heap.size ts.length q ∧ Tops q ∧ root q = root r) := ⟨hq, htq, hrq⟩
            clear hg hq htq hrq
            by_cases hlt : i < ts.length
            · have hxc := HXr.out
              go_wp2_with fail
              refine (root_any w.heap.size ts.length q i _ HQ.out.1 HQ.out.2.1 hlt).mono ?_
              rintro e w6 ⟨rfl, ⟨q6, f6, t6, r6⟩, k6⟩
              have HG6 : Hid (FAt w6 G ts.length (fun j => if j < i then root r j else 0)) := HG.out.keeps k6 (by omega)
              have HQ6 : Hid (FAt w6 w.heap.size ts.length q6 ∧ Tops q6 ∧ root q6 = root r ∧ Below w.heap.size w w6) := ⟨f6, t6, r6.trans HQ.out.2.2, hbw.trans (k6.below hbw.size (fun k hk e => by omega))⟩
              have HX6 : Hid (w6.cell? ⟨w1.heap.size, 0, none⟩ = some (.slice (some ⟨w.heap.size, 0, none⟩) ts.length ts.length)) := (k6.cell (by exact hxr) (by dsimp only; omega)).trans HXr.out
              have hx6 : w1.heap.size < w6.heap.size := Nat.lt_of_lt_of_le hxr k6.size
              rw [HQ.out.2.2]
              clear f6 t6 r6 k6 hxc
              have c0 := HG6.out.cell hlt
              have hfz := HG6.out.frozen
              go_wp2
              go_roundw
              case rel =>
                refine ⟨i + 1, q6, by go_num, by omega, (HG6.out.set i (root r i)).congr fun j _ => ?_, HQ6.out.1.keeps (Keeps.setCell (S := fun k => k = G) (p := ⟨G, i, none⟩) (Keeps.refl _ _) (.inl rfl) _) (by omega), HQ6.out.2.1, HQ6.out.2.2.1, (Keeps.cell (Keeps.setCell (S := fun k => k = G) (p := ⟨G, i, none⟩) (Keeps.refl _ w6) (.inl rfl) _) (by exact hx6) (by dsimp only; omega)).trans HX6.out, by simpa using hx6, HQ6.out.2.2.2.setCell (by dsimp only; omega) _⟩
                by_cases e : j = i
                · subst e; simp [upd_same]
                · rw [upd_other _ _ e]
                  by_cases h2 : j < i
                  · rw [if_pos h2, if_pos (by omega)]
                  · rw [if_neg h2, if_neg (by omega)]
              case measure => simp [intOf]; omega
            · have hie : i = ts.length := by omega
              subst hie
              clear hi hlt
              go_wp2
              go_ret
              exact ⟨G, root r, rfl, by omega, HG.out.congr fun j hj => by rw [if_pos hj], HB4.out, hbw⟩
end Go.Proofs.Ytanlmfcllebopaa
