/-
  BufferAll walked.
-/
import Derived.Test.YtpiemfchjlihfaaGreatDoorPB6
import Derived.Test.YtpiemfchjlihfaaGreatDoorAW3
import Derived.Test.YtpiemfchjlihfaaGreatDoorRB5
import Derived.Test.YtpiemfchjlihfaaGreatDoorBX2
import Derived.Test.YtpiemfchjlihfaaGreatDoorBWO
set_option linter.unusedVariables false
set_option maxRecDepth 20000
namespace Go.Proofs.YtpiemfchjlihfaaGreatDoor
open Go.RowKit Go.Shelf

theorem laid_glob {w : World} (h : Laid w) : 1 < w.heap.size ∧ 0 < w.heap.size := ⟨World.block_lt_of_cell? _ _ h.1.1, World.block_lt_of_cell? _ _ h.2.1⟩

theorem op_ok (k t : Int) (h : I64 t) : (⟨k, t, 0, 0, 0, 0, 0, 0, false, 0, 0, 0⟩ : Op13).Ok := by
  have z : I64 0 := ⟨by decide, by decide⟩
  have u : Wd 0 := ⟨by decide, by decide⟩
  exact ⟨h, u, z, z, z, z, z, z, z, u⟩

/-- Both, as they are made. -/
theorem Pc.start {n0 : Nat} {w2 w3 w4 w5 : World} {ab ag b vb ga gr N rb : Nat} {g : Nat → Nat} {c : Cfg} {s : Int} (hA : Ar w2 ab ag c (tops0 c) false (fun _ => 0)) (hL : Laid w2) (hgl : 1 < n0 ∧ 0 < n0) (h0 : n0 ≤ ab ∧ n0 ≤ ag) (l3 : Below w2.heap.size w2 w3) (hR : Ra w3 rb g c (tops0 c) false (fun _ => 0)) (hr : w2.heap.size ≤ rb ∧ ∀ s, 1 ≤ s → s ≤ 4 → w2.heap.size ≤ g s)
    (l4 : Below w3.heap.size w3 w4) (hb : Bf w4 b (bfs0 N s)) (hbl : w3.heap.size ≤ b) (l5 : Below w4.heap.size w4 w5) (hv : Rbs w5 vb ga gr N s (fun _ => 0) (fun _ => 0)) (hvl : w4.heap.size ≤ vb ∧ w4.heap.size ≤ ga ∧ w4.heap.size ≤ gr) :
    Pc n0 w5 b ab ag vb ga gr N rb g c 1 (fun _ => 0) (bfs0 N s) (fun _ => 0) (fun _ => 0) [] [] := by
  have lab := hA.own.lt
  have lag := hA.row.lt
  have lrf := hR.lt
  have lb := hb.own.lt
  have s3 := l3.size
  have s4 := l4.size
  have s5 := l5.size
  have rlo : ∀ q, q ∈ rft rb g → w2.heap.size ≤ q ∧ q < w3.heap.size := fun q hq => by
    refine ⟨?_, lrf q hq⟩
    simp only [rft, List.mem_cons, List.not_mem_nil, or_false] at hq
    rcases hq with e | e | e | e | e
    · rw [e]; exact hr.1
    · rw [e]; exact hr.2 1 (by omega) (by omega)
    · rw [e]; exact hr.2 2 (by omega) (by omega)
    · rw [e]; exact hr.2 3 (by omega) (by omega)
    · rw [e]; exact hr.2 4 (by omega) (by omega)
  have vlo : ∀ q, q ∈ [vb, ga, gr] → w4.heap.size ≤ q := fun q hq => by
    simp only [List.mem_cons, List.not_mem_nil, or_false] at hq
    omega
  have l34 : Below w2.heap.size w2 w4 := l3.trans (l4.mono l3.size)
  have hB := (Bw.start (n0 := n0) hA hL h0 hgl hb l34 (by omega)).below l5
  refine ⟨hB, ⟨rfl, rfl, fun t _ h => absurd h (Int.lt_irrefl 0), fun t u _ _ _ h => absurd h (Int.lt_irrefl 0), List.Perm.refl _, (fun T h => nomatch h), (fun _ g h => nomatch h)⟩, ⟨hv, (hR.below l4).below l5, fun q hq hm => ?_⟩, fun t _ => ⟨rfl, fun h => absurd h (Int.lt_irrefl 0)⟩, rfl, fun q hq hm => ?_, fun q hq => ?_⟩
  · have h1 := vlo q hq
    have h2 := rlo q hm
    omega
  · simp only [List.mem_cons, List.not_mem_nil, or_false] at hq
    rcases List.mem_append.1 hm with h1 | h1
    · have := vlo q h1
      omega
    · have := rlo q h1
      omega
  · rcases List.mem_append.1 hq with h1 | h1
    · have := vlo q h1
      omega
    · have := rlo q h1
      omega

set_option maxHeartbeats 8000000 in
theorem ball_any (cp : Cfg) (th sz : Int) (hth : I64 th) (hsz : I64 sz) (a0 : Option Addr) (cap len : Nat) (ops : List Op13) (hlen : ops.length = len) (hmx : len ≤ 9223372036854775807) (W : World) (hops : LOps13 W.heap.size W a0 ops) (hL : Laid W) :
    Calls Tryz.prog 3 #[cv cp, .int .i64 th, .int .i64 sz, .slice a0 len cap] W fun e w' => e = .returned (.bool true) ∧ Below W.heap.size W w' := by
  have HL : Hid (Laid W ∧ 1 < W.heap.size ∧ 0 < W.heap.size) := ⟨hL, laid_glob hL⟩
  have HO : Hid (LOps13 W.heap.size W a0 ops ∧ ops.length = len) := ⟨hops, hlen⟩
  have Hth : Hid (I64 th ∧ I64 sz) := ⟨hth, hsz⟩
  clear hL hops hlen hth hsz
  go_enter Tryz.func3, Tryz.ntmps3
  go_upto_region 1 with fail
  have f0 := Cfd.new W cp
  have l0 : Below W.heap.size W (W.alloc (.cells (ccells cp) 23)) := Below.alloc (Below.refl _ _) (Nat.le_refl _) _
  generalize W.alloc (.cells (ccells cp) 23) = v at *
  have HF0 : Hid (Cfd v W.heap.size cp) := f0
  have HB0 : Hid (Below W.heap.size W v) := l0
  have f0' := f0.at_
  have q := config_any cp v
  clear f0 l0
  go_wp2_with (refine wpList_load_row rfl 23 _ rfl W.heap.size rfl 23 _ (0, 0) _ f0' Tryz.underlying23 rfl cinfo ?_)
  refine q.mono ?_
  rintro e w1 ⟨c, rfl, hok, -, b1⟩
  have HB1 : Hid (Below W.heap.size W w1) := HB0.out.trans (b1.mono HB0.out.size)
  have f1 := (HF0.out.below b1).at_
  have Hok : Hid c.Ok := hok
  clear q b1 HF0 HB0 f0' hok
  go_upto_region 2 with (refine wpList_store_row rfl 23 _ _ rfl W.heap.size (ccells c) rfl rfl 23 (ccells cp) f1 cinfo rfl (by kernel_rfl) ?_)
  have HF1 : Hid (Cfd (w1.setRow W.heap.size (ccells c)) W.heap.size c) := ⟨setRow_heap _ _ _ _ _ _ f1⟩
  have HB1' : Hid (Below W.heap.size W (w1.setRow W.heap.size (ccells c))) := below_setRow HB1.out (Nat.le_refl _) _
  clear f1 HB1
  generalize w1.setRow W.heap.size (ccells c) = v1 at *
  have f1 := HF1.out.at_
  have q := new_yes c Hok.out v1
  go_wp2_with (refine wpList_load_row rfl 23 _ rfl W.heap.size rfl 23 _ (0, 0) _ f1 Tryz.underlying23 rfl cinfo ?_)
  refine q.mono ?_
  rintro e w2 ⟨ab, ag, rfl, ar2, b2, lab, lag⟩
  have HB2 : Hid (Below W.heap.size W w2) := HB1'.out.trans (b2.mono HB1'.out.size)
  have HA2 : Hid (Ar w2 ab ag c (tops0 c) false (fun _ => 0)) := ar2
  have Hlo2 : Hid (W.heap.size ≤ ab ∧ W.heap.size ≤ ag) := ⟨Nat.le_trans HB1'.out.size lab, Nat.le_trans HB1'.out.size lag⟩
  have f2 := (HF1.out.below b2).at_
  have q := rnew_yes c Hok.out w2
  clear f1 HF1 HB1' ar2 b2 lab lag
  go_wp2_with (refine wpList_load_row rfl 23 _ rfl W.heap.size rfl 23 _ (0, 0) _ f2 Tryz.underlying23 rfl cinfo ?_)
  refine q.mono ?_
  rintro e w3 ⟨rb, g, rfl, ra3, b3, lrb, lg⟩
  have HB3 : Hid (Below W.heap.size W w3) := HB2.out.trans (b3.mono HB2.out.size)
  have Hb3 : Hid (Below w2.heap.size w2 w3) := b3
  have HR3 : Hid (Ra w3 rb g c (tops0 c) false (fun _ => 0)) := ra3
  have Hlr3 : Hid (w2.heap.size ≤ rb ∧ ∀ s, 1 ≤ s → s ≤ 4 → w2.heap.size ≤ g s) := ⟨lrb, lg⟩
  clear q f2 ra3 b3 lrb lg
  by_cases hin : 1 ≤ th ∧ th ≤ 8 ∧ 0 ≤ sz ∧ sz ≤ 65536
  · obtain ⟨N, rfl⟩ : ∃ N : Nat, th = N := ⟨th.toNat, by omega⟩
    have q := bnew_yes N sz hin w3
    go_wp2_with fail
    refine q.mono ?_
    rintro e w4 ⟨b, rfl, bf4, b4, lb4⟩
    have HB4 : Hid (Below W.heap.size W w4) := HB3.out.trans (b4.mono HB3.out.size)
    have Hb4 : Hid (Below w3.heap.size w3 w4 ∧ Bf w4 b (bfs0 N sz) ∧ w3.heap.size ≤ b) := ⟨b4, bf4, lb4⟩
    have q := r13new_yes N sz ⟨by omega, by omega⟩ ⟨by omega, by omega⟩ w4
    clear bf4 b4 lb4
    go_wp2_with fail
    refine q.mono ?_
    rintro e w5 ⟨vb, ga, gr, rfl, rv5, b5, lv5⟩
    have HB5 : Hid (Below W.heap.size W w5) := HB4.out.trans (b5.mono HB4.out.size)
    have HPc : Hid (Pc W.heap.size w5 b ab ag vb ga gr N rb g c 1 (fun _ => 0) (bfs0 N sz) (fun _ => 0) (fun _ => 0) [] []) := Pc.start HA2.out (HL.out.1.keep HB2.out) HL.out.2 Hlo2.out Hb3.out HR3.out Hlr3.out Hb4.out.1 Hb4.out.2.1 Hb4.out.2.2 b5 rv5 lv5
    have hN8 : N ≤ 8 := by omega
    clear q rv5 b5 lv5 HA2 Hlo2 Hb3 HR3 Hlr3 Hb4 HB2 HB3 HB4 hin
    go_upto_region 11 with fail
    have b6 : Below w5.heap.size w5 (w5.alloc (.cells #[.pointer (some ⟨ab, 0, none⟩), .pointer (some ⟨b, 0, none⟩), .pointer (some ⟨rb, 0, none⟩), .pointer (some ⟨vb, 0, none⟩), .slice none 0 0] 42)) := Below.alloc (Below.refl _ _) (Nat.le_refl _) _
    have HZ6 : Hid (Pz W.heap.size (w5.alloc (.cells #[.pointer (some ⟨ab, 0, none⟩), .pointer (some ⟨b, 0, none⟩), .pointer (some ⟨rb, 0, none⟩), .pointer (some ⟨vb, 0, none⟩), .slice none 0 0] 42)) w5.heap.size b ab ag vb ga gr N rb g c [] (.slice none 0 0)) := ⟨⟨_, _, _, _, _, _, HPc.out.below b6⟩, heap_alloc_new w5 _, World.ownsRow_nil _ _ _ _, (fun q hq => by simp [Value.ownBlock] at hq), HB5.out.size⟩
    have HB6 : Hid (Below W.heap.size W (w5.alloc (.cells #[.pointer (some ⟨ab, 0, none⟩), .pointer (some ⟨b, 0, none⟩), .pointer (some ⟨rb, 0, none⟩), .pointer (some ⟨vb, 0, none⟩), .slice none 0 0] 42))) := HB5.out.trans (b6.mono HB5.out.size)
    clear b6 HPc HB5
    generalize w5.alloc (.cells #[.pointer (some ⟨ab, 0, none⟩), .pointer (some ⟨b, 0, none⟩), .pointer (some ⟨rb, 0, none⟩), .pointer (some ⟨vb, 0, none⟩), .slice none 0 0] 42) = w6 at *
    generalize w5.heap.size = pb at *
    go_wp2
    go_loopw [18] (fun iv wr => ∃ k : Nat, iv = .int .i64 k ∧ k ≤ len ∧ (∃ Th lv, Hid (Pz W.heap.size wr pb b ab ag vb ga gr N rb g c Th lv)) ∧ Hid (Below W.heap.size W wr)) (fun iv _ => len - (intOf iv).toNat)
    case atStart => exact ⟨0, rfl, by omega, ⟨[], _, HZ6⟩, HB6⟩
    case round =>
     obtain ⟨k, rfl, hk, ⟨Th, lv, HZ⟩, HBr⟩ := hrel
     clear HZ6 HB6
     by_cases hkl : k < len
     · have hki : (k : Int) < (len : Int) := by omega
       obtain ⟨o, ho⟩ : ∃ o, ops[k]? = some o := ⟨_, List.getElem?_eq_getElem (by have := HO.out.2; omega)⟩
       obtain ⟨hoOk, g0, off, hga, hgl, hcs⟩ := HO.out.1 k o ho
       have c0 : wr.cell? ⟨g0, off + k * 12, none⟩ = some (.int .i64 o.k) := (HBr.out.cell (p := ⟨g0, off + k * 12, none⟩) hgl).trans (hcs 0 (by omega))
       have c1 : wr.cell? ⟨g0, off + k * 12 + 1, none⟩ = some (.int .i64 o.t) := (HBr.out.cell (p := ⟨g0, off + k * 12 + 1, none⟩) hgl).trans (hcs 1 (by omega))
       have c2 : wr.cell? ⟨g0, off + k * 12 + 2, none⟩ = some (.int .u64 o.s) := (HBr.out.cell (p := ⟨g0, off + k * 12 + 2, none⟩) hgl).trans (hcs 2 (by omega))
       have c3 : wr.cell? ⟨g0, off + k * 12 + 3, none⟩ = some (.int .i64 o.kd) := (HBr.out.cell (p := ⟨g0, off + k * 12 + 3, none⟩) hgl).trans (hcs 3 (by omega))
       have c4 : wr.cell? ⟨g0, off + k * 12 + 4, none⟩ = some (.int .i64 o.p) := (HBr.out.cell (p := ⟨g0, off + k * 12 + 4, none⟩) hgl).trans (hcs 4 (by omega))
       have c5 : wr.cell? ⟨g0, off + k * 12 + 5, none⟩ = some (.int .i64 o.r) := (HBr.out.cell (p := ⟨g0, off + k * 12 + 5, none⟩) hgl).trans (hcs 5 (by omega))
       have c6 : wr.cell? ⟨g0, off + k * 12 + 6, none⟩ = some (.int .i64 o.a) := (HBr.out.cell (p := ⟨g0, off + k * 12 + 6, none⟩) hgl).trans (hcs 6 (by omega))
       have c7 : wr.cell? ⟨g0, off + k * 12 + 7, none⟩ = some (.int .i64 o.y) := (HBr.out.cell (p := ⟨g0, off + k * 12 + 7, none⟩) hgl).trans (hcs 7 (by omega))
       have c8 : wr.cell? ⟨g0, off + k * 12 + 8, none⟩ = some (.bool o.h) := (HBr.out.cell (p := ⟨g0, off + k * 12 + 8, none⟩) hgl).trans (hcs 8 (by omega))
       have c9 : wr.cell? ⟨g0, off + k * 12 + 9, none⟩ = some (.int .i64 o.n) := (HBr.out.cell (p := ⟨g0, off + k * 12 + 9, none⟩) hgl).trans (hcs 9 (by omega))
       have c10 : wr.cell? ⟨g0, off + k * 12 + 10, none⟩ = some (.int .i64 o.i) := (HBr.out.cell (p := ⟨g0, off + k * 12 + 10, none⟩) hgl).trans (hcs 10 (by omega))
       have c11 : wr.cell? ⟨g0, off + k * 12 + 11, none⟩ = some (.int .u64 o.w) := (HBr.out.cell (p := ⟨g0, off + k * 12 + 11, none⟩) hgl).trans (hcs 11 (by omega))
       have q := plays_any HZ.out HBr.out.size o hoOk
       clear hcs ho
       subst hga
       go_wp2_with fail
       refine q.mono ?_
       rintro e w7 ⟨rfl, b7, Th7, lv7, z7⟩
       have HZ7 : Hid (Pz W.heap.size w7 pb b ab ag vb ga gr N rb g c Th7 lv7) := z7
       have HB7 : Hid (Below W.heap.size W w7) := HBr.out.trans (b7.mono (Nat.le_refl _))
       clear q z7 b7 c0 c1 c2 c3 c4 c5 c6 c7 c8 c9 c10 c11 hoOk hgl
       go_wp2
       go_roundw
       case rel => exact ⟨k + 1, by go_num, by omega, ⟨Th7, lv7, HZ7⟩, HB7⟩
       case measure => simp [intOf]; omega
     · have hki : ¬ (k : Int) < (len : Int) := by omega
       go_wp2
       clear hki hkl hk
       obtain ⟨wo, hwo⟩ : ∃ v, v = wr := ⟨_, rfl⟩
       subst hwo
       go_loopw [19] (fun iv wr => ∃ m : Nat, iv = .int .i64 m ∧ m ≤ N ∧ (∃ Th lv, Hid (Pz W.heap.size wr pb b ab ag vb ga gr N rb g c Th lv)) ∧ Hid (Below W.heap.size W wr)) (fun iv _ => N - (intOf iv).toNat)
       case atStart => exact ⟨0, rfl, by omega, ⟨Th, lv, HZ⟩, HBr⟩
       case round =>
        obtain ⟨m, rfl, hm, ⟨Th2, lv2, HZm⟩, HBm⟩ := hrel
        by_cases hml : m < N
        · have hmi : (m : Int) < (N : Int) := by omega
          have q := plays_any HZm.out HBm.out.size ⟨3, m, 0, 0, 0, 0, 0, 0, false, 0, 0, 0⟩ (op_ok 3 m ⟨by omega, by omega⟩)
          go_wp2_with fail
          refine q.mono ?_
          rintro e w7 ⟨rfl, b7, Th7, lv7, z7⟩
          have HB7 : Hid (Below W.heap.size W w7) := HBm.out.trans (b7.mono (Nat.le_refl _))
          have q := plays_any z7 HB7.out.size ⟨2, m, 0, 0, 0, 0, 0, 0, false, 0, 0, 0⟩ (op_ok 2 m ⟨by omega, by omega⟩)
          clear b7 z7
          go_wp2_with fail
          refine q.mono ?_
          rintro e w8 ⟨rfl, b8, Th8, lv8, z8⟩
          have HZ8 : Hid (Pz W.heap.size w8 pb b ab ag vb ga gr N rb g c Th8 lv8) := z8
          have HB8 : Hid (Below W.heap.size W w8) := HB7.out.trans (b8.mono (Nat.le_refl _))
          clear q b8 z8
          go_wp2
          go_roundw
          case rel => exact ⟨m + 1, by go_num, by omega, ⟨Th8, lv8, HZ8⟩, HB8⟩
          case measure => simp [intOf]; omega
        · have hmi : ¬ (m : Int) < (N : Int) := by omega
          obtain ⟨top, ws, B, at_, rs, L, hpc⟩ := HZm.out.pc
          have q := alike_any hpc
          clear hpc
          go_wp2_with fail
          refine q.mono ?_
          rintro e w9 ⟨rfl, b9⟩
          have HB9 : Hid (Below W.heap.size W w9) := HBm.out.trans (b9.mono HBm.out.size)
          clear q b9
          go_wp2
          go_ret
          exact ⟨rfl, HB9.out⟩
  · have q := bnew_no th sz hin w3
    go_wp2_with fail
    refine q.mono ?_
    rintro e w4 ⟨rfl, rfl⟩
    have q := r13new_no th sz hin w3
    go_wp2_with fail
    refine q.mono ?_
    rintro e w4 ⟨rfl, rfl⟩
    clear q hin
    go_wp2
    go_ret
    exact ⟨rfl, HB3.out⟩

end Go.Proofs.YtpiemfchjlihfaaGreatDoor
