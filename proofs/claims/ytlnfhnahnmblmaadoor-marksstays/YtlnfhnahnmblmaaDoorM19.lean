/-
  MarksStays, walked.
-/
import Derived.Test.YtlnfhnahnmblmaaDoorM18
set_option linter.unusedVariables false
set_option maxRecDepth 100000
namespace Go.Proofs.YtlnfhnahnmblmaaDoor
open Go.RowKit Go.Shelf

theorem own_ge {B : Nat} {w : World} {e : TypeId} {v : Value} {n : Nat} {xs : List Value} (h : w.ownsRow B e 1 v n xs) : ∀ k, v.ownBlock = some k → B ≤ k := by
  intro k hk
  obtain ⟨_, ⟨rfl, _⟩ | ⟨g, cap, cur, rfl, hge, _⟩⟩ := h
  · simp [Value.ownBlock] at hk
  · simp [Value.ownBlock] at hk; omega

theorem own_below {B : Nat} {w w' : World} {e : TypeId} {v : Value} {n : Nat} {xs : List Value} (h : w.ownsRow B e 1 v n xs) (l : Below w.heap.size w w') : w'.ownsRow B e 1 v n xs :=
  h.kept (row := none) ⟨l.os, l.tape, l.output, l.size, fun k hk _ => l.block k hk⟩ (by
    cases v.ownBlock <;> simp)

set_option maxHeartbeats 8000000 in
theorem stays_no (ws : Int) (h : ws < 0 ∨ 8192 < ws) (v v2 v3 : Value) (w : World) (hL : Laid w) :
    Calls Tryd.prog 3 #[.int .i64 ws, v, v2, v3] w fun r w' => r = .returned (.bool true) ∧ Below w.heap.size w w' := by
  have hk := known_any w hL
  go_enter Tryd.func3, Tryd.ntmps3
  go_wp2_with fail
  refine hk.mono ?_
  rintro r w1 ⟨rfl, b1⟩
  have hf := filled_out ws h v w1
  clear hk
  go_wp2_with fail
  refine hf.mono ?_
  rintro r w2 ⟨rfl, rfl⟩
  clear hf h
  go_wp2
  go_ret
  exact ⟨rfl, b1⟩

theorem set_some (b g n : Nat) (M : Nat → Bool) (x y : Int) (hx : x ≤ 9223372036854775807) (w : World) (hM : Mp w b g n M) :
    Calls Tryd.prog 15 #[.pointer (some ⟨b, 0, none⟩), .int .i64 x, .int .i64 y] w fun r w' => ∃ fs er, r = .returned (.tuple #[.bool fs, .int .i64 er]) ∧ (∃ M', Mp w' b g n M') ∧ Touch [g] w w' := by
  by_cases hc : x < 0 ∨ y < 0 ∨ (n : Int) - x < y
  · exact (set_out b g n M x y hx hc w hM).mono (fun _ _ ⟨h1, h2⟩ => ⟨_, _, h1, ⟨M, hM.below h2⟩, Touch.of_below h2 _⟩)
  · obtain ⟨xn, rfl⟩ := Int.eq_ofNat_of_zero_le (show 0 ≤ x by omega)
    obtain ⟨yn, rfl⟩ := Int.eq_ofNat_of_zero_le (show 0 ≤ y by omega)
    exact (set_in b g n M xn yn (by omega) w hM).mono (fun _ _ ⟨fs, _, h1, h2, h3⟩ => ⟨fs, 0, h1, ⟨_, h2⟩, h3⟩)

/-- The answers to the first k questions. -/
def wasl (N : Nat → Bool) (l : List Int) (k : Nat) : List Int := (l.take k).map (fun z => ((tov N 5 z : Nat) : Int))

theorem wasl_len (N : Nat → Bool) (l : List Int) (k : Nat) (h : k ≤ l.length) : (wasl N l k).length = k := by simp [wasl]; omega
theorem wasl_succ (N : Nat → Bool) (l : List Int) (k : Nat) {z : Int} (h : l[k]? = some z) : wasl N l (k + 1) = wasl N l k ++ [((tov N 5 z : Nat) : Int)] := by
  unfold wasl
  rw [List.take_add_one, h]; simp
theorem wasl_at (N : Nat → Bool) (l : List Int) (k i : Nat) {z : Int} (hk : i < k) (h : l[i]? = some z) : (wasl N l k)[i]? = some ((tov N 5 z : Nat) : Int) := by
  unfold wasl
  rw [List.getElem?_map, List.getElem?_take_of_lt hk, h]; rfl

set_option maxHeartbeats 16000000 in
theorem stays_in (n : Nat) (hn : n ≤ 8192) (a a2 a3 : Option Addr) (cap cap2 cap3 : Nat) (l l2 l3 : List Int) (hlen : l.length ≤ 9223372036854775807) (hlen2 : l2.length ≤ 9223372036854775807) (hlen3 : l3.length ≤ 9223372036854775807) (w : World) (hL : Laid w) (hl : Lst w a l) (hl2 : Lst w a2 l2) (hl3 : Lst w a3 l3) :
    Calls Tryd.prog 3 #[.int .i64 n, .slice a l.length cap, .slice a2 l2.length cap2, .slice a3 l3.length cap3] w fun r w' => r = .returned (.bool true) ∧ Below w.heap.size w w' := by
  have hk := known_any w hL
  have HL : Hid (Laid w) := hL
  have Hl : Hid (Lst w a l ∧ Lst w a2 l2 ∧ Lst w a3 l3) := ⟨hl, hl2, hl3⟩
  clear hL hl hl2 hl3
  go_enter Tryd.func3, Tryd.ntmps3
  go_wp2_with fail
  refine hk.mono ?_
  rintro r w1 ⟨rfl, b1⟩
  have hf := filled_in n hn a cap l hlen w1 (HL.out.below b1) (Hl.out.1.below b1)
  clear hk
  go_wp2_with fail
  refine hf.mono ?_
  rintro r w2 ⟨⟨b, g, rfl, hM, hgb, hgg⟩, b2⟩
  have b3 := b1.trans (b2.mono b1.size)
  have hbw : w.heap.size ≤ b ∧ w.heap.size ≤ g := by have := b1.size; omega
  generalize fil n (l.take 600) (fun _ => false) = M at hM
  have hs := slide_in b g n 0 n 5 M (by omega) (by omega) (by decide) w2 hM (HL.out.below b3)
  have HM : Hid (Mp w2 b g n M) := hM
  have hgl := hM.row.lt
  clear hf b1 b2 hM
  go_wp2_with fail
  refine hs.mono ?_
  rintro r w3 ⟨⟨s, kb, kg, q, rfl, hS, s1, s2, s3, s4⟩, b4⟩
  have b5 := b3.trans (b4.mono b3.size)
  have hs' := slide_in b g n 0 n 5 M (by omega) (by omega) (by decide) w3 (HM.out.below b4) (HL.out.below b5)
  have H3 : Hid (Sl w3 s kb kg q 5 n (cut M 0 n)) := hS
  clear hs hS b3
  go_wp2_with fail
  refine hs'.mono ?_
  rintro r w4 ⟨⟨t, kb', kg', q', rfl, hT, -, -, -, -⟩, b6⟩
  have b7 := b5.trans (b6.mono b5.size)
  have H4 : Hid (Mp w4 b g n M ∧ Sl w4 s kb kg q 5 n (cut M 0 n) ∧ Sl w4 t kb' kg' q' 5 n (cut M 0 n)) := ⟨(HM.out.below b4).below b6, H3.out.below b6, hT⟩
  have hno := hT.kept.out
  have hnum := num_any 0 w4
  have HN : Hid (Calls Tryd.prog 12 #[.int .i64 0] w4 fun r w' => r = .returned (.int .i64 0) ∧ w4 = w') := hnum
  have hg4 : g < w4.heap.size := by have := b4.size; have := b6.size; omega
  have hss : g < s ∧ g < kb ∧ g < kg ∧ g < q := by omega
  clear hs' hT b4 b5 b6 H3 HM s1 s2 s3 s4
  go_wp2_with fail
  refine hnum.mono ?_
  rintro r w5 ⟨rfl, rfl⟩
  clear hnum
  go_wp2_with fail
  refine HN.out.mono ?_
  rintro r w5 ⟨rfl, rfl⟩
  clear HN
  generalize hcut : cut M 0 n = N at *
  have Hno : Hid (∀ k, n ≤ k → N k = false) := hno
  clear hno hcut
  obtain ⟨i0, hi, hz0, hz1, hz2⟩ := info_parts Tryd.infoInt
  have HI0 : Hid ((Tryd.prog.info? 3 = some i0) ∧ i0.zero = some (.int .i64 0) ∧ i0.size = 1 ∧ i0.bytes = 8) := ⟨hi, hz0, hz1, hz2⟩
  clear hi hz0 hz1 hz2
  go_wp2
  go_loopw [15, 16] (fun v15 v16 wr => ∃ i : Nat, v16 = .int .i64 i ∧ i ≤ l3.length ∧ i ≤ 300 ∧ Hid (wr.ownsRow w4.heap.size 3 1 v15 i ((wasl N l3 i).map (.int .i64)) ∧ Below w4.heap.size w4 wr)) (fun _ v16 _ => (300 - intOf v16).toNat)
  case atStart => exact ⟨0, rfl, Nat.zero_le _, by decide, ⟨World.ownsRow_nil _ _ _ _, Below.refl _ _⟩⟩
  case round =>
    obtain ⟨i, rfl, hi3, hi300, hI⟩ := hrel
    by_cases c1 : i < l3.length
    · by_cases c2 : i < 300
      · obtain ⟨hrow, hB⟩ := hI.out
        obtain ⟨z, hz⟩ : ∃ z, l3[i]? = some z := ⟨_, List.getElem?_eq_getElem c1⟩
        have hBw := b7.trans (hB.mono b7.size)
        obtain ⟨rz, b0, off, rfl, hb0, cz⟩ := Hl.out.2.2.below hBw i z hz
        have hto := to_any t kb' kg' q' 5 n N z wr (H4.out.2.2.below hB) (HL.out.below hBw)
        have htl := tov_le N 5 n (by decide) (by omega) Hno.out z
        have HW : Hid (wasl N l3 (i + 1) = wasl N l3 i ++ [((tov N 5 z : Nat) : Int)]) := wasl_succ N l3 i hz
        clear hI hb0 hz hBw
        generalize tov N 5 z = tv at *
        go_wp2_with fail
        refine hto.mono ?_
        rintro r w6 ⟨rfl, b8⟩
        have hrow6 := own_below hrow b8
        have hB6 := hB.trans (b8.mono hB.size)
        clear hto cz hrow hB b8
        go_wp2_with (at_builtin; refine wpList_append_own_at _ rfl _ _ 22 rfl w4.heap.size 3 i0 (.int .i64 0) 1 8 Tryd.underlying22 HI0.out.1 HI0.out.2.1 HI0.out.2.2.1 HI0.out.2.2.2 rfl (by decide) _ _ _ rfl (hrow6.alloc _) ⟨w6.heap.size, 0, none⟩ 1 1 [.int .i64 (tv : Int)] rfl rfl (cell_one_new _ _ _) (by simp [Value.oneCell']) (by simp [maxLen]; omega) (by omega) (by have := hB6.size; simp; omega) ?_)
        intro v' w7 ho hg _ _
        have hB7 : Below w4.heap.size w4 w7 := (hB6.alloc hB6.size _).grown hg (by have := hB6.size; simp; omega) (fun k e => own_ge hrow6 k e)
        have H7 : Hid (w7.ownsRow w4.heap.size 3 1 v' (i + 1) ((wasl N l3 (i + 1)).map (.int .i64)) ∧ Below w4.heap.size w4 w7) := by
          refine ⟨?_, hB7⟩
          rw [HW.out, List.map_append]
          exact ho
        clear hrow6 hB6 ho hg hB7
        go_wp2
        go_roundw
        case rel => exact ⟨i + 1, by simp, by omega, by omega, H7⟩
        case measure => simp [intOf]; omega
      · go_wp2_with fail
        obtain ⟨hrow, hB⟩ := hI.out
        have hlw : (wasl N l3 i).length = i := wasl_len N l3 i hi3
        obtain ⟨p, C, rfl, hpc, hls⟩ := own_lsb (l := wasl N l3 i) (by rw [hlw]; exact hrow)
        rw [hlw] at *
        have ht := total_any t kb' kg' q' 5 n N wr (H4.out.2.2.below hB)
        have hrn := rk_le N n
        have HST0 : Hid (Mp wr b g n M ∧ Sl wr s kb kg q 5 n N ∧ Lsb w4.heap.size wr p (wasl N l3 i) ∧ Below w.heap.size w wr) := ⟨H4.out.1.below hB, H4.out.2.1.below hB, hls, b7.trans (hB.mono b7.size)⟩
        clear hI hrow hlw hls
        go_wp2_with fail
        refine ht.mono ?_
        rintro r ws ⟨rfl, rfl⟩
        clear ht
        go_wp2
        go_loopw [20] (fun v wr => ∃ (j : Nat) (M2 : Nat → Bool), v = .int .i64 j ∧ j ≤ 301 ∧ Hid (Mp wr b g n M2 ∧ Sl wr s kb kg q 5 n N ∧ Lsb w4.heap.size wr p (wasl N l3 i) ∧ Below w.heap.size w wr)) (fun v _ => (301 - intOf v).toNat)
        case atStart => exact ⟨0, M, rfl, by decide, HST0⟩
        case round =>
          obtain ⟨j, M2, rfl, hj, hJ⟩ := hrel
          by_cases c1 : j + 1 < l2.length
          · by_cases c2 : j < 300
            · obtain ⟨hMj, hSj, hLj, hBj⟩ := hJ.out
              obtain ⟨x, hx⟩ : ∃ x, l2[j]? = some x := ⟨_, List.getElem?_eq_getElem (by omega)⟩
              obtain ⟨y, hy⟩ : ∃ y, l2[j + 1]? = some y := ⟨_, List.getElem?_eq_getElem c1⟩
              obtain ⟨rx, b0, off, rfl, hb0, cx⟩ := Hl.out.2.1.below hBj j x hx
              obtain ⟨ry, b0', off', he, hb0', cy⟩ := Hl.out.2.1.below hBj (j + 1) y hy
              simp only [Option.some.injEq, Addr.mk.injEq] at he
              obtain ⟨rfl, rfl, -⟩ := he
              have hset := set_some b g n M2 x y rx.2 wr.drew (hMj.below (below_drewN (Below.refl _ _) 1))
              clear hx hy hb0 hb0'
              go_wp2
              refine quiet_tail 10 mixed (by kernel_rfl) ?_
              simp only [List.take_succ_cons, List.take_zero, List.drop_succ_cons, List.drop_zero]
              repeat (go_big_quiet_step (fail))
              refine wpQuiet_nil ?_
              go_wp2_with fail
              refine hset.mono ?_
              rintro r wu ⟨fs, er, rfl, ⟨M3, hM3⟩, tu⟩
              have tu' : Touch [g] wr wu := (Touch.drewN [g] wr 1).trans tu
              have HJ' : Hid (Mp wu b g n M3 ∧ Sl wu s kb kg q 5 n N ∧ Lsb w4.heap.size wu p (wasl N l3 i) ∧ Below w.heap.size w wu) := ⟨hM3, hSj.touch tu' (by simp; omega) (by simp; omega) (by simp; omega) (by simp; omega), hLj.touch tu' (by simp; omega), hBj.trans (tu'.below hBj.size (by simp; omega))⟩
              clear hset cx cy hMj hSj hLj hBj tu tu' hM3 hJ
              go_wp2
              go_roundw
              case rel => exact ⟨j + 2, M3, by simp, by omega, HJ'⟩
              case measure => simp [intOf]; omega
            · have HST : Hid (Mp wr b g n M2 ∧ Sl wr s kb kg q 5 n N ∧ Lsb w4.heap.size wr p (wasl N l3 i) ∧ Below w.heap.size w wr) := hJ
              clear hJ HST0
              go_wp2
              go_loopw [21] (fun v wr => ∃ j : Nat, v = .int .i64 j ∧ j ≤ i ∧ Hid (Mp wr b g n M2 ∧ Sl wr s kb kg q 5 n N ∧ Lsb w4.heap.size wr p (wasl N l3 i) ∧ Below w.heap.size w wr)) (fun v _ => (i - intOf v).toNat)
              case atStart => exact ⟨0, rfl, Nat.zero_le _, HST⟩
              case round =>
                obtain ⟨j, rfl, hji, hJ⟩ := hrel
                by_cases d1 : j < i
                · obtain ⟨hMj, hSj, hLj, hBj⟩ := hJ.out
                  obtain ⟨z, hz⟩ : ∃ z, l3[j]? = some z := ⟨_, List.getElem?_eq_getElem (by omega)⟩
                  obtain ⟨rz, b0, off, rfl, hb0, cz⟩ := Hl.out.2.2.below hBj j z hz
                  have hto := to_any s kb kg q 5 n N z wr hSj (HL.out.below hBj)
                  have htl := tov_le N 5 n (by decide) (by omega) Hno.out z
                  obtain ⟨gw, hgw, rfl, cw⟩ := hLj j _ (wasl_at N l3 i j d1 hz)
                  clear hb0 hz
                  generalize tov N 5 z = tv at *
                  go_wp2_with fail
                  refine hto.mono ?_
                  rintro r wu ⟨rfl, bu⟩
                  have cw' : wu.cell? ⟨gw, j, none⟩ = some (.int .i64 tv) := (bu.cell (World.block_lt_of_cell? _ _ cw)).trans cw
                  have HJ' : Hid (Mp wu b g n M2 ∧ Sl wu s kb kg q 5 n N ∧ Lsb w4.heap.size wu (some ⟨gw, 0, none⟩) (wasl N l3 i) ∧ Below w.heap.size w wu) := ⟨hMj.below bu, hSj.below bu, hLj.below bu, hBj.trans (bu.mono hBj.size)⟩
                  clear hto cz cw hMj hSj hLj hBj bu hJ
                  go_wp2
                  go_roundw
                  case rel => exact ⟨j + 1, by simp, by omega, HJ'⟩
                  case measure => simp [intOf]; omega
                · have hji2 : j = i := by omega
                  subst hji2
                  obtain ⟨hMj, hSj, hLj, hBj⟩ := hJ.out
                  have hcl := clear_any b g n M2 wr hMj
                  clear hJ
                  go_wp2_with fail
                  refine hcl.mono ?_
                  rintro r wv ⟨rfl, hMv, tv⟩
                  have hgw4 : g < w4.heap.size := hg4
                  have HST : Hid (Mp wv b g n (fun _ => false) ∧ Sl wv s kb kg q 5 n N ∧ Lsb w4.heap.size wv p (wasl N l3 j) ∧ Below w.heap.size w wv) := ⟨hMv, hSj.touch tv (by simp; omega) (by simp; omega) (by simp; omega) (by simp; omega), hLj.touch tv (by simp; omega), hBj.trans (tv.below hBj.size (by simp; omega))⟩
                  clear hcl hMv tv hMj hSj hLj hBj
                  go_wp2
                  go_loopw [24] (fun v wr => ∃ m : Nat, v = .int .i64 m ∧ m ≤ j ∧ Hid (Mp wr b g n (fun _ => false) ∧ Sl wr s kb kg q 5 n N ∧ Lsb w4.heap.size wr p (wasl N l3 j) ∧ Below w.heap.size w wr)) (fun v _ => (j - intOf v).toNat)
                  case atStart => exact ⟨0, rfl, Nat.zero_le _, HST⟩
                  case round =>
                    obtain ⟨m, rfl, hji, hJ⟩ := hrel
                    by_cases d1 : m < j
                    · obtain ⟨hMj, hSj, hLj, hBj⟩ := hJ.out
                      obtain ⟨z, hz⟩ : ∃ z, l3[m]? = some z := ⟨_, List.getElem?_eq_getElem (by omega)⟩
                      obtain ⟨rz, b0, off, rfl, hb0, cz⟩ := Hl.out.2.2.below hBj m z hz
                      have hto := to_any s kb kg q 5 n N z wr hSj (HL.out.below hBj)
                      have htl := tov_le N 5 n (by decide) (by omega) Hno.out z
                      obtain ⟨gw, hgw, rfl, cw⟩ := hLj m _ (wasl_at N l3 j m d1 hz)
                      clear hb0 hz
                      generalize tov N 5 z = tv at *
                      go_wp2_with fail
                      refine hto.mono ?_
                      rintro r wu ⟨rfl, bu⟩
                      have cw' : wu.cell? ⟨gw, m, none⟩ = some (.int .i64 tv) := (bu.cell (World.block_lt_of_cell? _ _ cw)).trans cw
                      have HJ' : Hid (Mp wu b g n (fun _ => false) ∧ Sl wu s kb kg q 5 n N ∧ Lsb w4.heap.size wu (some ⟨gw, 0, none⟩) (wasl N l3 j) ∧ Below w.heap.size w wu) := ⟨hMj.below bu, hSj.below bu, hLj.below bu, hBj.trans (bu.mono hBj.size)⟩
                      clear hto cz cw hMj hSj hLj hBj bu hJ
                      go_wp2
                      go_roundw
                      case rel => exact ⟨m + 1, by simp, by omega, HJ'⟩
                      case measure => simp [intOf]; omega
                    · have hji2 : m = j := by omega
                      subst hji2
                      obtain ⟨hMj, hSj, hLj, hBj⟩ := hJ.out
                      have ht := total_any s kb kg q 5 n N wr hSj
                      have hco := count_any b g n (fun _ => false) 0 n (by decide) wr hMj (HL.out.below hBj)
                      rw [show rk (fun _ => false) (min (n : Int) n).toNat - rk (fun _ => false) (max (0 : Int) 0).toNat = 0 by rw [rk_none _ (fun _ _ => rfl)]; simp] at hco
                      clear hJ hMj hSj hLj
                      go_wp2_with fail
                      refine ht.mono ?_
                      rintro r wu ⟨rfl, rfl⟩
                      clear ht
                      go_wp2_with fail
                      refine hco.mono ?_
                      rintro r wu ⟨rfl, bu⟩
                      have bf := hBj.trans (bu.mono hBj.size)
                      clear hco bu
                      go_wp2
                      go_ret
                      exact ⟨rfl, bf⟩
          · have HST : Hid (Mp wr b g n M2 ∧ Sl wr s kb kg q 5 n N ∧ Lsb w4.heap.size wr p (wasl N l3 i) ∧ Below w.heap.size w wr) := hJ
            clear hJ HST0
            go_wp2
            go_loopw [21] (fun v wr => ∃ j : Nat, v = .int .i64 j ∧ j ≤ i ∧ Hid (Mp wr b g n M2 ∧ Sl wr s kb kg q 5 n N ∧ Lsb w4.heap.size wr p (wasl N l3 i) ∧ Below w.heap.size w wr)) (fun v _ => (i - intOf v).toNat)
            case atStart => exact ⟨0, rfl, Nat.zero_le _, HST⟩
            case round =>
              obtain ⟨j, rfl, hji, hJ⟩ := hrel
              by_cases d1 : j < i
              · obtain ⟨hMj, hSj, hLj, hBj⟩ := hJ.out
                obtain ⟨z, hz⟩ : ∃ z, l3[j]? = some z := ⟨_, List.getElem?_eq_getElem (by omega)⟩
                obtain ⟨rz, b0, off, rfl, hb0, cz⟩ := Hl.out.2.2.below hBj j z hz
                have hto := to_any s kb kg q 5 n N z wr hSj (HL.out.below hBj)
                have htl := tov_le N 5 n (by decide) (by omega) Hno.out z
                obtain ⟨gw, hgw, rfl, cw⟩ := hLj j _ (wasl_at N l3 i j d1 hz)
                clear hb0 hz
                generalize tov N 5 z = tv at *
                go_wp2_with fail
                refine hto.mono ?_
                rintro r wu ⟨rfl, bu⟩
                have cw' : wu.cell? ⟨gw, j, none⟩ = some (.int .i64 tv) := (bu.cell (World.block_lt_of_cell? _ _ cw)).trans cw
                have HJ' : Hid (Mp wu b g n M2 ∧ Sl wu s kb kg q 5 n N ∧ Lsb w4.heap.size wu (some ⟨gw, 0, none⟩) (wasl N l3 i) ∧ Below w.heap.size w wu) := ⟨hMj.below bu, hSj.below bu, hLj.below bu, hBj.trans (bu.mono hBj.size)⟩
                clear hto cz cw hMj hSj hLj hBj bu hJ
                go_wp2
                go_roundw
                case rel => exact ⟨j + 1, by simp, by omega, HJ'⟩
                case measure => simp [intOf]; omega
              · have hji2 : j = i := by omega
                subst hji2
                obtain ⟨hMj, hSj, hLj, hBj⟩ := hJ.out
                have hcl := clear_any b g n M2 wr hMj
                clear hJ
                go_wp2_with fail
                refine hcl.mono ?_
                rintro r wv ⟨rfl, hMv, tv⟩
                have hgw4 : g < w4.heap.size := hg4
                have HST : Hid (Mp wv b g n (fun _ => false) ∧ Sl wv s kb kg q 5 n N ∧ Lsb w4.heap.size wv p (wasl N l3 j) ∧ Below w.heap.size w wv) := ⟨hMv, hSj.touch tv (by simp; omega) (by simp; omega) (by simp; omega) (by simp; omega), hLj.touch tv (by simp; omega), hBj.trans (tv.below hBj.size (by simp; omega))⟩
                clear hcl hMv tv hMj hSj hLj hBj
                go_wp2
                go_loopw [24] (fun v wr => ∃ m : Nat, v = .int .i64 m ∧ m ≤ j ∧ Hid (Mp wr b g n (fun _ => false) ∧ Sl wr s kb kg q 5 n N ∧ Lsb w4.heap.size wr p (wasl N l3 j) ∧ Below w.heap.size w wr)) (fun v _ => (j - intOf v).toNat)
                case atStart => exact ⟨0, rfl, Nat.zero_le _, HST⟩
                case round =>
                  obtain ⟨m, rfl, hji, hJ⟩ := hrel
                  by_cases d1 : m < j
                  · obtain ⟨hMj, hSj, hLj, hBj⟩ := hJ.out
                    obtain ⟨z, hz⟩ : ∃ z, l3[m]? = some z := ⟨_, List.getElem?_eq_getElem (by omega)⟩
                    obtain ⟨rz, b0, off, rfl, hb0, cz⟩ := Hl.out.2.2.below hBj m z hz
                    have hto := to_any s kb kg q 5 n N z wr hSj (HL.out.below hBj)
                    have htl := tov_le N 5 n (by decide) (by omega) Hno.out z
                    obtain ⟨gw, hgw, rfl, cw⟩ := hLj m _ (wasl_at N l3 j m d1 hz)
                    clear hb0 hz
                    generalize tov N 5 z = tv at *
                    go_wp2_with fail
                    refine hto.mono ?_
                    rintro r wu ⟨rfl, bu⟩
                    have cw' : wu.cell? ⟨gw, m, none⟩ = some (.int .i64 tv) := (bu.cell (World.block_lt_of_cell? _ _ cw)).trans cw
                    have HJ' : Hid (Mp wu b g n (fun _ => false) ∧ Sl wu s kb kg q 5 n N ∧ Lsb w4.heap.size wu (some ⟨gw, 0, none⟩) (wasl N l3 j) ∧ Below w.heap.size w wu) := ⟨hMj.below bu, hSj.below bu, hLj.below bu, hBj.trans (bu.mono hBj.size)⟩
                    clear hto cz cw hMj hSj hLj hBj bu hJ
                    go_wp2
                    go_roundw
                    case rel => exact ⟨m + 1, by simp, by omega, HJ'⟩
                    case measure => simp [intOf]; omega
                  · have hji2 : m = j := by omega
                    subst hji2
                    obtain ⟨hMj, hSj, hLj, hBj⟩ := hJ.out
                    have ht := total_any s kb kg q 5 n N wr hSj
                    have hco := count_any b g n (fun _ => false) 0 n (by decide) wr hMj (HL.out.below hBj)
                    rw [show rk (fun _ => false) (min (n : Int) n).toNat - rk (fun _ => false) (max (0 : Int) 0).toNat = 0 by rw [rk_none _ (fun _ _ => rfl)]; simp] at hco
                    clear hJ hMj hSj hLj
                    go_wp2_with fail
                    refine ht.mono ?_
                    rintro r wu ⟨rfl, rfl⟩
                    clear ht
                    go_wp2_with fail
                    refine hco.mono ?_
                    rintro r wu ⟨rfl, bu⟩
                    have bf := hBj.trans (bu.mono hBj.size)
                    clear hco bu
                    go_wp2
                    go_ret
                    exact ⟨rfl, bf⟩
    · go_wp2_with fail
      obtain ⟨hrow, hB⟩ := hI.out
      have hlw : (wasl N l3 i).length = i := wasl_len N l3 i hi3
      obtain ⟨p, C, rfl, hpc, hls⟩ := own_lsb (l := wasl N l3 i) (by rw [hlw]; exact hrow)
      rw [hlw] at *
      have ht := total_any t kb' kg' q' 5 n N wr (H4.out.2.2.below hB)
      have hrn := rk_le N n
      have HST0 : Hid (Mp wr b g n M ∧ Sl wr s kb kg q 5 n N ∧ Lsb w4.heap.size wr p (wasl N l3 i) ∧ Below w.heap.size w wr) := ⟨H4.out.1.below hB, H4.out.2.1.below hB, hls, b7.trans (hB.mono b7.size)⟩
      clear hI hrow hlw hls
      go_wp2_with fail
      refine ht.mono ?_
      rintro r ws ⟨rfl, rfl⟩
      clear ht
      go_wp2
      go_loopw [20] (fun v wr => ∃ (j : Nat) (M2 : Nat → Bool), v = .int .i64 j ∧ j ≤ 301 ∧ Hid (Mp wr b g n M2 ∧ Sl wr s kb kg q 5 n N ∧ Lsb w4.heap.size wr p (wasl N l3 i) ∧ Below w.heap.size w wr)) (fun v _ => (301 - intOf v).toNat)
      case atStart => exact ⟨0, M, rfl, by decide, HST0⟩
      case round =>
        obtain ⟨j, M2, rfl, hj, hJ⟩ := hrel
        by_cases c1 : j + 1 < l2.length
        · by_cases c2 : j < 300
          · obtain ⟨hMj, hSj, hLj, hBj⟩ := hJ.out
            obtain ⟨x, hx⟩ : ∃ x, l2[j]? = some x := ⟨_, List.getElem?_eq_getElem (by omega)⟩
            obtain ⟨y, hy⟩ : ∃ y, l2[j + 1]? = some y := ⟨_, List.getElem?_eq_getElem c1⟩
            obtain ⟨rx, b0, off, rfl, hb0, cx⟩ := Hl.out.2.1.below hBj j x hx
            obtain ⟨ry, b0', off', he, hb0', cy⟩ := Hl.out.2.1.below hBj (j + 1) y hy
            simp only [Option.some.injEq, Addr.mk.injEq] at he
            obtain ⟨rfl, rfl, -⟩ := he
            have hset := set_some b g n M2 x y rx.2 wr.drew (hMj.below (below_drewN (Below.refl _ _) 1))
            clear hx hy hb0 hb0'
            go_wp2
            refine quiet_tail 10 mixed (by kernel_rfl) ?_
            simp only [List.take_succ_cons, List.take_zero, List.drop_succ_cons, List.drop_zero]
            repeat (go_big_quiet_step (fail))
            refine wpQuiet_nil ?_
            go_wp2_with fail
            refine hset.mono ?_
            rintro r wu ⟨fs, er, rfl, ⟨M3, hM3⟩, tu⟩
            have tu' : Touch [g] wr wu := (Touch.drewN [g] wr 1).trans tu
            have HJ' : Hid (Mp wu b g n M3 ∧ Sl wu s kb kg q 5 n N ∧ Lsb w4.heap.size wu p (wasl N l3 i) ∧ Below w.heap.size w wu) := ⟨hM3, hSj.touch tu' (by simp; omega) (by simp; omega) (by simp; omega) (by simp; omega), hLj.touch tu' (by simp; omega), hBj.trans (tu'.below hBj.size (by simp; omega))⟩
            clear hset cx cy hMj hSj hLj hBj tu tu' hM3 hJ
            go_wp2
            go_roundw
            case rel => exact ⟨j + 2, M3, by simp, by omega, HJ'⟩
            case measure => simp [intOf]; omega
          · have HST : Hid (Mp wr b g n M2 ∧ Sl wr s kb kg q 5 n N ∧ Lsb w4.heap.size wr p (wasl N l3 i) ∧ Below w.heap.size w wr) := hJ
            clear hJ HST0
            go_wp2
            go_loopw [21] (fun v wr => ∃ j : Nat, v = .int .i64 j ∧ j ≤ i ∧ Hid (Mp wr b g n M2 ∧ Sl wr s kb kg q 5 n N ∧ Lsb w4.heap.size wr p (wasl N l3 i) ∧ Below w.heap.size w wr)) (fun v _ => (i - intOf v).toNat)
            case atStart => exact ⟨0, rfl, Nat.zero_le _, HST⟩
            case round =>
              obtain ⟨j, rfl, hji, hJ⟩ := hrel
              by_cases d1 : j < i
              · obtain ⟨hMj, hSj, hLj, hBj⟩ := hJ.out
                obtain ⟨z, hz⟩ : ∃ z, l3[j]? = some z := ⟨_, List.getElem?_eq_getElem (by omega)⟩
                obtain ⟨rz, b0, off, rfl, hb0, cz⟩ := Hl.out.2.2.below hBj j z hz
                have hto := to_any s kb kg q 5 n N z wr hSj (HL.out.below hBj)
                have htl := tov_le N 5 n (by decide) (by omega) Hno.out z
                obtain ⟨gw, hgw, rfl, cw⟩ := hLj j _ (wasl_at N l3 i j d1 hz)
                clear hb0 hz
                generalize tov N 5 z = tv at *
                go_wp2_with fail
                refine hto.mono ?_
                rintro r wu ⟨rfl, bu⟩
                have cw' : wu.cell? ⟨gw, j, none⟩ = some (.int .i64 tv) := (bu.cell (World.block_lt_of_cell? _ _ cw)).trans cw
                have HJ' : Hid (Mp wu b g n M2 ∧ Sl wu s kb kg q 5 n N ∧ Lsb w4.heap.size wu (some ⟨gw, 0, none⟩) (wasl N l3 i) ∧ Below w.heap.size w wu) := ⟨hMj.below bu, hSj.below bu, hLj.below bu, hBj.trans (bu.mono hBj.size)⟩
                clear hto cz cw hMj hSj hLj hBj bu hJ
                go_wp2
                go_roundw
                case rel => exact ⟨j + 1, by simp, by omega, HJ'⟩
                case measure => simp [intOf]; omega
              · have hji2 : j = i := by omega
                subst hji2
                obtain ⟨hMj, hSj, hLj, hBj⟩ := hJ.out
                have hcl := clear_any b g n M2 wr hMj
                clear hJ
                go_wp2_with fail
                refine hcl.mono ?_
                rintro r wv ⟨rfl, hMv, tv⟩
                have hgw4 : g < w4.heap.size := hg4
                have HST : Hid (Mp wv b g n (fun _ => false) ∧ Sl wv s kb kg q 5 n N ∧ Lsb w4.heap.size wv p (wasl N l3 j) ∧ Below w.heap.size w wv) := ⟨hMv, hSj.touch tv (by simp; omega) (by simp; omega) (by simp; omega) (by simp; omega), hLj.touch tv (by simp; omega), hBj.trans (tv.below hBj.size (by simp; omega))⟩
                clear hcl hMv tv hMj hSj hLj hBj
                go_wp2
                go_loopw [24] (fun v wr => ∃ m : Nat, v = .int .i64 m ∧ m ≤ j ∧ Hid (Mp wr b g n (fun _ => false) ∧ Sl wr s kb kg q 5 n N ∧ Lsb w4.heap.size wr p (wasl N l3 j) ∧ Below w.heap.size w wr)) (fun v _ => (j - intOf v).toNat)
                case atStart => exact ⟨0, rfl, Nat.zero_le _, HST⟩
                case round =>
                  obtain ⟨m, rfl, hji, hJ⟩ := hrel
                  by_cases d1 : m < j
                  · obtain ⟨hMj, hSj, hLj, hBj⟩ := hJ.out
                    obtain ⟨z, hz⟩ : ∃ z, l3[m]? = some z := ⟨_, List.getElem?_eq_getElem (by omega)⟩
                    obtain ⟨rz, b0, off, rfl, hb0, cz⟩ := Hl.out.2.2.below hBj m z hz
                    have hto := to_any s kb kg q 5 n N z wr hSj (HL.out.below hBj)
                    have htl := tov_le N 5 n (by decide) (by omega) Hno.out z
                    obtain ⟨gw, hgw, rfl, cw⟩ := hLj m _ (wasl_at N l3 j m d1 hz)
                    clear hb0 hz
                    generalize tov N 5 z = tv at *
                    go_wp2_with fail
                    refine hto.mono ?_
                    rintro r wu ⟨rfl, bu⟩
                    have cw' : wu.cell? ⟨gw, m, none⟩ = some (.int .i64 tv) := (bu.cell (World.block_lt_of_cell? _ _ cw)).trans cw
                    have HJ' : Hid (Mp wu b g n (fun _ => false) ∧ Sl wu s kb kg q 5 n N ∧ Lsb w4.heap.size wu (some ⟨gw, 0, none⟩) (wasl N l3 j) ∧ Below w.heap.size w wu) := ⟨hMj.below bu, hSj.below bu, hLj.below bu, hBj.trans (bu.mono hBj.size)⟩
                    clear hto cz cw hMj hSj hLj hBj bu hJ
                    go_wp2
                    go_roundw
                    case rel => exact ⟨m + 1, by simp, by omega, HJ'⟩
                    case measure => simp [intOf]; omega
                  · have hji2 : m = j := by omega
                    subst hji2
                    obtain ⟨hMj, hSj, hLj, hBj⟩ := hJ.out
                    have ht := total_any s kb kg q 5 n N wr hSj
                    have hco := count_any b g n (fun _ => false) 0 n (by decide) wr hMj (HL.out.below hBj)
                    rw [show rk (fun _ => false) (min (n : Int) n).toNat - rk (fun _ => false) (max (0 : Int) 0).toNat = 0 by rw [rk_none _ (fun _ _ => rfl)]; simp] at hco
                    clear hJ hMj hSj hLj
                    go_wp2_with fail
                    refine ht.mono ?_
                    rintro r wu ⟨rfl, rfl⟩
                    clear ht
                    go_wp2_with fail
                    refine hco.mono ?_
                    rintro r wu ⟨rfl, bu⟩
                    have bf := hBj.trans (bu.mono hBj.size)
                    clear hco bu
                    go_wp2
                    go_ret
                    exact ⟨rfl, bf⟩
        · have HST : Hid (Mp wr b g n M2 ∧ Sl wr s kb kg q 5 n N ∧ Lsb w4.heap.size wr p (wasl N l3 i) ∧ Below w.heap.size w wr) := hJ
          clear hJ HST0
          go_wp2
          go_loopw [21] (fun v wr => ∃ j : Nat, v = .int .i64 j ∧ j ≤ i ∧ Hid (Mp wr b g n M2 ∧ Sl wr s kb kg q 5 n N ∧ Lsb w4.heap.size wr p (wasl N l3 i) ∧ Below w.heap.size w wr)) (fun v _ => (i - intOf v).toNat)
          case atStart => exact ⟨0, rfl, Nat.zero_le _, HST⟩
          case round =>
            obtain ⟨j, rfl, hji, hJ⟩ := hrel
            by_cases d1 : j < i
            · obtain ⟨hMj, hSj, hLj, hBj⟩ := hJ.out
              obtain ⟨z, hz⟩ : ∃ z, l3[j]? = some z := ⟨_, List.getElem?_eq_getElem (by omega)⟩
              obtain ⟨rz, b0, off, rfl, hb0, cz⟩ := Hl.out.2.2.below hBj j z hz
              have hto := to_any s kb kg q 5 n N z wr hSj (HL.out.below hBj)
              have htl := tov_le N 5 n (by decide) (by omega) Hno.out z
              obtain ⟨gw, hgw, rfl, cw⟩ := hLj j _ (wasl_at N l3 i j d1 hz)
              clear hb0 hz
              generalize tov N 5 z = tv at *
              go_wp2_with fail
              refine hto.mono ?_
              rintro r wu ⟨rfl, bu⟩
              have cw' : wu.cell? ⟨gw, j, none⟩ = some (.int .i64 tv) := (bu.cell (World.block_lt_of_cell? _ _ cw)).trans cw
              have HJ' : Hid (Mp wu b g n M2 ∧ Sl wu s kb kg q 5 n N ∧ Lsb w4.heap.size wu (some ⟨gw, 0, none⟩) (wasl N l3 i) ∧ Below w.heap.size w wu) := ⟨hMj.below bu, hSj.below bu, hLj.below bu, hBj.trans (bu.mono hBj.size)⟩
              clear hto cz cw hMj hSj hLj hBj bu hJ
              go_wp2
              go_roundw
              case rel => exact ⟨j + 1, by simp, by omega, HJ'⟩
              case measure => simp [intOf]; omega
            · have hji2 : j = i := by omega
              subst hji2
              obtain ⟨hMj, hSj, hLj, hBj⟩ := hJ.out
              have hcl := clear_any b g n M2 wr hMj
              clear hJ
              go_wp2_with fail
              refine hcl.mono ?_
              rintro r wv ⟨rfl, hMv, tv⟩
              have hgw4 : g < w4.heap.size := hg4
              have HST : Hid (Mp wv b g n (fun _ => false) ∧ Sl wv s kb kg q 5 n N ∧ Lsb w4.heap.size wv p (wasl N l3 j) ∧ Below w.heap.size w wv) := ⟨hMv, hSj.touch tv (by simp; omega) (by simp; omega) (by simp; omega) (by simp; omega), hLj.touch tv (by simp; omega), hBj.trans (tv.below hBj.size (by simp; omega))⟩
              clear hcl hMv tv hMj hSj hLj hBj
              go_wp2
              go_loopw [24] (fun v wr => ∃ m : Nat, v = .int .i64 m ∧ m ≤ j ∧ Hid (Mp wr b g n (fun _ => false) ∧ Sl wr s kb kg q 5 n N ∧ Lsb w4.heap.size wr p (wasl N l3 j) ∧ Below w.heap.size w wr)) (fun v _ => (j - intOf v).toNat)
              case atStart => exact ⟨0, rfl, Nat.zero_le _, HST⟩
              case round =>
                obtain ⟨m, rfl, hji, hJ⟩ := hrel
                by_cases d1 : m < j
                · obtain ⟨hMj, hSj, hLj, hBj⟩ := hJ.out
                  obtain ⟨z, hz⟩ : ∃ z, l3[m]? = some z := ⟨_, List.getElem?_eq_getElem (by omega)⟩
                  obtain ⟨rz, b0, off, rfl, hb0, cz⟩ := Hl.out.2.2.below hBj m z hz
                  have hto := to_any s kb kg q 5 n N z wr hSj (HL.out.below hBj)
                  have htl := tov_le N 5 n (by decide) (by omega) Hno.out z
                  obtain ⟨gw, hgw, rfl, cw⟩ := hLj m _ (wasl_at N l3 j m d1 hz)
                  clear hb0 hz
                  generalize tov N 5 z = tv at *
                  go_wp2_with fail
                  refine hto.mono ?_
                  rintro r wu ⟨rfl, bu⟩
                  have cw' : wu.cell? ⟨gw, m, none⟩ = some (.int .i64 tv) := (bu.cell (World.block_lt_of_cell? _ _ cw)).trans cw
                  have HJ' : Hid (Mp wu b g n (fun _ => false) ∧ Sl wu s kb kg q 5 n N ∧ Lsb w4.heap.size wu (some ⟨gw, 0, none⟩) (wasl N l3 j) ∧ Below w.heap.size w wu) := ⟨hMj.below bu, hSj.below bu, hLj.below bu, hBj.trans (bu.mono hBj.size)⟩
                  clear hto cz cw hMj hSj hLj hBj bu hJ
                  go_wp2
                  go_roundw
                  case rel => exact ⟨m + 1, by simp, by omega, HJ'⟩
                  case measure => simp [intOf]; omega
                · have hji2 : m = j := by omega
                  subst hji2
                  obtain ⟨hMj, hSj, hLj, hBj⟩ := hJ.out
                  have ht := total_any s kb kg q 5 n N wr hSj
                  have hco := count_any b g n (fun _ => false) 0 n (by decide) wr hMj (HL.out.below hBj)
                  rw [show rk (fun _ => false) (min (n : Int) n).toNat - rk (fun _ => false) (max (0 : Int) 0).toNat = 0 by rw [rk_none _ (fun _ _ => rfl)]; simp] at hco
                  clear hJ hMj hSj hLj
                  go_wp2_with fail
                  refine ht.mono ?_
                  rintro r wu ⟨rfl, rfl⟩
                  clear ht
                  go_wp2_with fail
                  refine hco.mono ?_
                  rintro r wu ⟨rfl, bu⟩
                  have bf := hBj.trans (bu.mono hBj.size)
                  clear hco bu
                  go_wp2
                  go_ret
                  exact ⟨rfl, bf⟩

theorem stays_any (ws : Int) (a a2 a3 : Option Addr) (cap cap2 cap3 : Nat) (l l2 l3 : List Int) (hlen : l.length ≤ 9223372036854775807) (hlen2 : l2.length ≤ 9223372036854775807) (hlen3 : l3.length ≤ 9223372036854775807) (w : World) (hL : Laid w) (hl : Lst w a l) (hl2 : Lst w a2 l2) (hl3 : Lst w a3 l3) :
    Calls Tryd.prog 3 #[.int .i64 ws, .slice a l.length cap, .slice a2 l2.length cap2, .slice a3 l3.length cap3] w fun r w' => r = .returned (.bool true) ∧ Below w.heap.size w w' := by
  by_cases h : ws < 0 ∨ 8192 < ws
  · exact stays_no ws h _ _ _ w hL
  · obtain ⟨n, rfl⟩ := Int.eq_ofNat_of_zero_le (show 0 ≤ ws by omega)
    exact stays_in n (by omega) a a2 a3 cap cap2 cap3 l l2 l3 hlen hlen2 hlen3 w hL hl hl2 hl3
end Go.Proofs.YtlnfhnahnmblmaaDoor
