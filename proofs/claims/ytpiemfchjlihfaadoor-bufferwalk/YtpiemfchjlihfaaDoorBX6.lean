/-
  BufferWalk walked.
-/
import Derived.Test.YtpiemfchjlihfaaDoorPXa
import Derived.Test.YtpiemfchjlihfaaDoorBS8
import Derived.Test.YtpiemfchjlihfaaDoorBWO
set_option linter.unusedVariables false
set_option maxRecDepth 20000
namespace Go.Proofs.YtpiemfchjlihfaaDoor
open Go.RowKit Go.Shelf

/-- Without fillers the pieces' words are the objects'. -/
theorem szs_obs : ∀ (L : List Sg) (a : Nat), (∀ g, g ∈ L → g.o ≠ none) → ((obs a L).map Prod.snd).sum = szs L
  | [], a, _ => rfl
  | g :: L, a, h => by
    have ih := szs_obs L (a + g.n) (fun g' hg => h g' (List.mem_cons_of_mem _ hg))
    have h0 := h g (List.mem_cons_self ..)
    obtain ⟨n, o⟩ := g
    cases o with
    | none => exact absurd rfl h0
    | some y =>
      simp only [obs, szs, List.map_cons, List.sum_cons] at ih ⊢
      rw [ih]

theorem perm_sum {l l' : List Nat} (h : l.Perm l') : l.sum = l'.sum := by
  induction h with
  | nil => rfl
  | cons x _ ih => simp [ih]
  | swap x y l => simp; omega
  | trans _ _ h1 h2 => exact h1.trans h2

theorem Wo.sum {x : Tps} {ws : Nat → Int} {B : Bfs} {top : Nat} {L : List Sg} {Th : List Ob} (W : Wo x ws B top L Th) (h : B.size = 0) : top = 1 + (Th.map Ob.n).sum := by
  rw [W.ch.top, ← szs_obs L 1 (W.nf h), perm_sum (W.ob.map Prod.snd), List.map_map]
  rfl

theorem sum_take (Th : List Ob) (k : Nat) (T : Ob) (h : Th[k]? = some T) : ((Th.take (k + 1)).map Ob.n).sum = ((Th.take k).map Ob.n).sum + T.n := by
  rw [List.take_add_one, h]
  simp

theorem sum_le (Th : List Ob) (k : Nat) : ((Th.take k).map Ob.n).sum ≤ (Th.map Ob.n).sum := by
  have h := List.take_append_drop k Th
  have h2 : (Th.map Ob.n).sum = ((Th.take k).map Ob.n).sum + ((Th.drop k).map Ob.n).sum := by
    rw [← List.sum_append, ← List.map_append, h]
  omega

theorem laid_glob {w : World} (h : Laid w) : 1 < w.heap.size ∧ 0 < w.heap.size := ⟨World.block_lt_of_cell? _ _ h.1.1, World.block_lt_of_cell? _ _ h.2.1⟩

/-- What the loop keeps. -/
def Wk (W w : World) (wb b ab ag nt : Nat) (c : Cfg) (s : Nat) : Prop := ∃ top ws B L Th lv, Ws W.heap.size w wb b ab ag nt c top ws B L Th lv ∧ B.size = s

theorem Wk.below {W w w' : World} {wb b ab ag nt : Nat} {c : Cfg} {s : Nat} (h : Wk W w wb b ab ag nt c s) (l : Below w.heap.size w w') : Wk W w' wb b ab ag nt c s := by
  obtain ⟨top, ws, B, L, Th, lv, h1, h2⟩ := h
  exact ⟨top, ws, B, L, Th, lv, h1.below l, h2⟩

theorem Wk.whole {W w : World} {wb b ab ag nt : Nat} {c : Cfg} {s : Nat} (h : Wk W w wb b ab ag nt c s) : Calls Tryd.prog 16 #[.pointer (some ⟨wb, 0, none⟩)] w fun e w' => e = .returned (.bool true) ∧ Below w.heap.size w w' := by
  obtain ⟨top, ws, B, L, Th, lv, h1, h2⟩ := h
  exact whole_any h1

theorem Wk.step {W w : World} {wb b ab ag nt : Nat} {c : Cfg} {s : Nat} (h : Wk W w wb b ab ag nt c s) (hl : W.heap.size ≤ w.heap.size) (o : Op13) (ho : o.Ok) : Calls Tryd.prog 15 #[.pointer (some ⟨wb, 0, none⟩), o.val] w fun e w' => e = .returned (.bool true) ∧ Wk W w' wb b ab ag nt c s ∧ Below W.heap.size w w' := by
  obtain ⟨top, ws, B, L, Th, lv, h1, h2⟩ := h
  exact (step_any h1 hl o ho).mono fun e w' ⟨e1, e2, top', ws', B', L', Th', lv', e3, e4⟩ => ⟨e1, ⟨top', ws', B', L', Th', lv', e3, e4.trans h2⟩, e2⟩

set_option maxHeartbeats 8000000 in
theorem bwalk_any (cp : Cfg) (th wd : Int) (hth : I64 th) (hwd : I64 wd) (a0 : Option Addr) (cap len : Nat) (ops : List Op13) (hlen : ops.length = len) (hmx : len ≤ 9223372036854775807) (W : World) (hops : LOps13 W.heap.size W a0 ops) (hL : Laid W) (hgl : 1 < W.heap.size ∧ 0 < W.heap.size) :
    Calls Tryd.prog 4 #[cv cp, .int .i64 th, .int .i64 wd, .slice a0 len cap] W fun e w' => e = .returned (.bool true) ∧ Below W.heap.size W w' := by
  have HL : Hid (Laid W ∧ 1 < W.heap.size ∧ 0 < W.heap.size) := ⟨hL, hgl⟩
  have HO : Hid (LOps13 W.heap.size W a0 ops ∧ ops.length = len) := ⟨hops, hlen⟩
  obtain ⟨t, ht, HT0⟩ := among13_nat th 8 hth.1 hth.2 (by decide)
  obtain ⟨s, hs, HS0⟩ := among13_nat wd 200 hwd.1 hwd.2 (by decide)
  have HT : Hid (∀ w : World, Calls Tryd.prog 8 #[.int .i64 th, .int .i64 8] w fun e w' => e = .returned (.int .i64 t) ∧ w = w') := HT0
  have HS : Hid (∀ w : World, Calls Tryd.prog 8 #[.int .i64 wd, .int .i64 200] w fun e w' => e = .returned (.int .i64 s) ∧ w = w') := HS0
  clear HT0 HS0 hL hgl hops hlen hth hwd
  go_enter Tryd.func4, Tryd.ntmps4
  go_upto_region 1 with fail
  have f0 := Cfd.new W cp
  have l0 : Below W.heap.size W (W.alloc (.cells (ccells cp) 24)) := Below.alloc (Below.refl _ _) (Nat.le_refl _) _
  generalize W.alloc (.cells (ccells cp) 24) = v at *
  have HF0 : Hid (Cfd v W.heap.size cp) := f0
  have HB0 : Hid (Below W.heap.size W v) := l0
  have q := known13_any v (HL.out.1.keep l0)
  clear f0 l0
  go_wp2_with fail
  refine q.mono ?_
  rintro e w1 ⟨rfl, b1⟩
  have f1 := (HF0.out.below b1).at_
  have HB1 : Hid (Below W.heap.size W w1) := HB0.out.trans (b1.mono HB0.out.size)
  have q := begin_any cp th wd t s (t + 1) ht rfl (by omega) HT.out HS.out W.heap.size w1 HB1.out.size (HL.out.1.keep HB1.out) HL.out.2
  clear b1 HF0 HB0
  go_wp2_with (refine wpList_load_row rfl 24 _ rfl W.heap.size rfl 24 _ (0, 0) _ f1 Tryd.underlying24 rfl cinfo ?_)
  refine q.mono ?_
  rintro e w2 ⟨wb, b, ab, ag, c, rfl, S2, -, b2, -⟩
  have HW2 : Hid (Wk W w2 wb b ab ag (t + 1) c s) := ⟨1, _, _, [], [], _, S2, rfl⟩
  have HB2 : Hid (Below W.heap.size W w2) := HB1.out.trans (b2.mono HB1.out.size)
  clear q f1 S2 b2 HB1 HT
  generalize t + 1 = nt at HW2
  go_wp2
  go_loopw [10] (fun iv wr => ∃ k : Nat, iv = .int .i64 k ∧ k ≤ len ∧ Hid (Wk W wr wb b ab ag nt c s) ∧ Hid (Below W.heap.size W wr)) (fun iv _ => len - (intOf iv).toNat)
  case atStart => exact ⟨0, rfl, by omega, HW2, HB2⟩
  case round =>
    obtain ⟨k, rfl, hk, HWr, HBr⟩ := hrel
    clear HW2 HB2
    by_cases hkl : k < len
    · have hki : (k : Int) < (len : Int) := by omega
      obtain ⟨o, ho⟩ : ∃ o, ops[k]? = some o := ⟨_, List.getElem?_eq_getElem (by have := HO.out.2; omega)⟩
      obtain ⟨hoOk, g, off, hga, hgl, hcs⟩ := HO.out.1 k o ho
      have c0 : wr.cell? ⟨g, off + k * 12, none⟩ = some (.int .i64 o.k) := (HBr.out.cell (p := ⟨g, off + k * 12, none⟩) hgl).trans (hcs 0 (by omega))
      have c1 : wr.cell? ⟨g, off + k * 12 + 1, none⟩ = some (.int .i64 o.t) := (HBr.out.cell (p := ⟨g, off + k * 12 + 1, none⟩) hgl).trans (hcs 1 (by omega))
      have c2 : wr.cell? ⟨g, off + k * 12 + 2, none⟩ = some (.int .u64 o.s) := (HBr.out.cell (p := ⟨g, off + k * 12 + 2, none⟩) hgl).trans (hcs 2 (by omega))
      have c3 : wr.cell? ⟨g, off + k * 12 + 3, none⟩ = some (.int .i64 o.kd) := (HBr.out.cell (p := ⟨g, off + k * 12 + 3, none⟩) hgl).trans (hcs 3 (by omega))
      have c4 : wr.cell? ⟨g, off + k * 12 + 4, none⟩ = some (.int .i64 o.p) := (HBr.out.cell (p := ⟨g, off + k * 12 + 4, none⟩) hgl).trans (hcs 4 (by omega))
      have c5 : wr.cell? ⟨g, off + k * 12 + 5, none⟩ = some (.int .i64 o.r) := (HBr.out.cell (p := ⟨g, off + k * 12 + 5, none⟩) hgl).trans (hcs 5 (by omega))
      have c6 : wr.cell? ⟨g, off + k * 12 + 6, none⟩ = some (.int .i64 o.a) := (HBr.out.cell (p := ⟨g, off + k * 12 + 6, none⟩) hgl).trans (hcs 6 (by omega))
      have c7 : wr.cell? ⟨g, off + k * 12 + 7, none⟩ = some (.int .i64 o.y) := (HBr.out.cell (p := ⟨g, off + k * 12 + 7, none⟩) hgl).trans (hcs 7 (by omega))
      have c8 : wr.cell? ⟨g, off + k * 12 + 8, none⟩ = some (.bool o.h) := (HBr.out.cell (p := ⟨g, off + k * 12 + 8, none⟩) hgl).trans (hcs 8 (by omega))
      have c9 : wr.cell? ⟨g, off + k * 12 + 9, none⟩ = some (.int .i64 o.n) := (HBr.out.cell (p := ⟨g, off + k * 12 + 9, none⟩) hgl).trans (hcs 9 (by omega))
      have c10 : wr.cell? ⟨g, off + k * 12 + 10, none⟩ = some (.int .i64 o.i) := (HBr.out.cell (p := ⟨g, off + k * 12 + 10, none⟩) hgl).trans (hcs 10 (by omega))
      have c11 : wr.cell? ⟨g, off + k * 12 + 11, none⟩ = some (.int .u64 o.w) := (HBr.out.cell (p := ⟨g, off + k * 12 + 11, none⟩) hgl).trans (hcs 11 (by omega))
      have q := HWr.out.step HBr.out.size o hoOk
      clear hcs ho
      subst hga
      go_wp2_with fail
      refine q.mono ?_
      rintro e w3 ⟨rfl, hw3, b3⟩
      have HW3 : Hid (Wk W w3 wb b ab ag nt c s) := hw3
      have HB3 : Hid (Below W.heap.size W w3) := HBr.out.trans (b3.mono (Nat.le_refl _))
      clear q hw3 b3 c0 c1 c2 c3 c4 c5 c6 c7 c8 c9 c10 c11 hoOk hgl
      have h7 : (k : Int).tmod 7 = ((k % 7 : Nat) : Int) := by rw [Int.tmod_eq_emod_of_nonneg (by omega)]; omega
      by_cases h3 : k % 7 = 3
      · have h7' : (k : Int).tmod 7 = 3 := by rw [h7, h3]; rfl
        have q := HW3.out.whole
        clear h7 h3
        go_wp2_with fail
        refine q.mono ?_
        rintro e w4 ⟨rfl, b4⟩
        have HW4 : Hid (Wk W w4 wb b ab ag nt c s) := HW3.out.below b4
        have HB4 : Hid (Below W.heap.size W w4) := HB3.out.trans (b4.mono HB3.out.size)
        clear q b4
        go_wp2
        go_roundw
        case rel => exact ⟨k + 1, by go_num, by omega, HW4, HB4⟩
        case measure => simp [intOf]; omega
      · have h7' : ¬ (k : Int).tmod 7 = 3 := by rw [h7]; omega
        clear h7 h3
        go_wp2
        go_roundw
        case rel => exact ⟨k + 1, by go_num, by omega, HW3, HB3⟩
        case measure => simp [intOf]; omega
    · have hki : ¬ (k : Int) < (len : Int) := by omega
      have q := HS.out wr
      go_wp2_with fail
      refine q.mono ?_
      rintro e w4 ⟨rfl, rfl⟩
      obtain ⟨v4, hv4⟩ : ∃ v, v = wr := ⟨_, rfl⟩
      subst hv4
      clear q hki hkl hk
      by_cases hs0 : s = 0
      · have hs0I : (s : Int) = 0 := by omega
        obtain ⟨top, ws, B, L, Th, lv, S4, hBs⟩ := HWr.out
        have hsum := S4.wo.sum (by rw [hBs]; omega)
        have htop := S4.topl.1
        obtain ⟨a1, cap1, hlv⟩ := S4.mo.sl
        subst hlv
        have HS4 : Hid (Ws W.heap.size v4 wb b ab ag nt c top ws B L Th (.slice a1 Th.length cap1)) := S4
        have hTl : Th.length ≤ 70000 := by
          have h1 := obs_length S4.wo.ch
          have h2 := S4.wo.ch.top
          have h4 : (obs 1 L).length = Th.length := by have := S4.wo.ob.length_eq; simpa using this
          omega
        have Hsum : Hid (top = 1 + (Th.map Ob.n).sum) := hsum
        have hSle : (Th.map Ob.n).sum ≤ 65536 := by omega
        clear S4 hBs hsum
        go_wp2
        go_loopw [11, 12] (fun sv iv wr => ∃ m : Nat, iv = .int .i64 m ∧ m ≤ Th.length ∧ (∃ z : Nat, sv = .int .i64 z ∧ z ≤ 65536 ∧ Hid (z = ((Th.take m).map Ob.n).sum)) ∧ Hid (Below v4.heap.size v4 wr)) (fun _ iv _ => Th.length - (intOf iv).toNat)
        case atStart => exact ⟨0, rfl, by omega, ⟨0, rfl, by omega, (rfl : 0 = (([] : List Ob).map Ob.n).sum)⟩, Below.refl _ _⟩
        case round =>
          obtain ⟨m, rfl, hm, ⟨z, rfl, hz, Hz⟩, HBm⟩ := hrel
          have HSm : Hid (Ws W.heap.size wr wb b ab ag nt c top ws B L Th (.slice a1 Th.length cap1)) := HS4.out.below HBm.out
          have k3 := HSm.out.c3
          by_cases hml : m < Th.length
          · have hmi : (m : Int) < (Th.length : Int) := by omega
            obtain ⟨T, hT⟩ : ∃ T, Th[m]? = some T := ⟨_, List.getElem?_eq_getElem hml⟩
            obtain ⟨q9, hla, hq9, hcs⟩ := HSm.out.mo.cell hT
            have v1 : wr.cell? ⟨q9, m * 9 + 1, none⟩ = some (.int .u64 T.s) := hcs 1 (by omega)
            have v2 : wr.cell? ⟨q9, m * 9 + 2, none⟩ = some (.int .i64 T.k) := hcs 2 (by omega)
            have v3 : wr.cell? ⟨q9, m * 9 + 3, none⟩ = some (.int .i64 T.p) := hcs 3 (by omega)
            have v4' : wr.cell? ⟨q9, m * 9 + 4, none⟩ = some (.int .i64 T.r) := hcs 4 (by omega)
            have v5 : wr.cell? ⟨q9, m * 9 + 5, none⟩ = some (.int .i64 T.a) := hcs 5 (by omega)
            have v6 : wr.cell? ⟨q9, m * 9 + 6, none⟩ = some (.int .i64 T.y) := hcs 6 (by omega)
            have v7 : wr.cell? ⟨q9, m * 9 + 7, none⟩ = some (.bool T.h) := hcs 7 (by omega)
            have h1 := sum_take Th m T hT
            have h2 := sum_le Th (m + 1)
            have hTn : T.n = 2 + T.p + T.r := rfl
            have h3 := Hz.out
            have q := size13_any T.s T.k T.p T.r T.a T.y T.h (by omega) (by omega) (by omega) (by omega) wr
            have Hz' : Hid (z + T.n = ((Th.take (m + 1)).map Ob.n).sum ∧ z + T.n ≤ 65536) := ⟨by omega, by omega⟩
            have hzz : (z : Int) + (2 + T.p + T.r) ≤ 65536 := by have := Hz'.out.2; omega
            rw [hla] at k3
            clear hcs h1 h2 h3 hT hq9
            subst hla
            go_wp2_with fail
            refine q.mono ?_
            rintro e w8 ⟨rfl, b8⟩
            have HB8 : Hid (Below v4.heap.size v4 w8) := HBm.out.trans (b8.mono HBm.out.size)
            clear q b8 k3 v1 v2 v3 v4' v5 v6 v7
            go_wp2
            go_roundw
            case rel => exact ⟨m + 1, by go_num, by omega, ⟨z + T.n, by simp, Hz'.out.2, Hz'.out.1⟩, HB8⟩
            case measure => simp [intOf]; omega
          · have hmi : ¬ (m : Int) < (Th.length : Int) := by omega
            have hztop : (1 : Int) + z = top := by
              have h1 := Hz.out
              rw [List.take_of_length_le (by omega)] at h1
              have := Hsum.out
              omega
            have k0 := HSm.out.wp.c0
            have q : Calls Tryd.prog 13 #[.pointer (some ⟨ab, 0, none⟩), .int .i64 1] wr fun e w' => e = .returned (.int .i64 top) ∧ Below wr.heap.size wr w' := top_any ab ag c (xt c top) false ws 1 wr HSm.out.bw.ar
            go_wp2_with fail
            refine q.mono ?_
            rintro e w8 ⟨rfl, b8⟩
            have HB8 : Hid (Below v4.heap.size v4 w8) := HBm.out.trans (b8.mono HBm.out.size)
            have HWt : Hid (Wk W w8 wb b ab ag nt c s) := HWr.out.below HB8.out
            have HBt : Hid (Below W.heap.size W w8) := HBr.out.trans (HB8.out.mono HBr.out.size)
            clear q b8 k3 k0 HSm HS4 HBm HB8 HWr HBr Hsum hSle htop
            go_upto_region 19 with fail
            have q := HWt.out.whole
            go_wp2_with fail
            refine q.mono ?_
            rintro e w5 ⟨rfl, b5⟩
            have HW5 : Hid (Wk W w5 wb b ab ag nt c s) := HWt.out.below b5
            have HB5 : Hid (Below W.heap.size W w5) := HBt.out.trans (b5.mono HBt.out.size)
            have q := many_any w5 (HL.out.1.keep HB5.out) ⟨Nat.lt_of_lt_of_le HL.out.2.1 HB5.out.size, Nat.lt_of_lt_of_le HL.out.2.2 HB5.out.size⟩
            clear b5 HWt HBt
            go_wp2_with fail
            refine q.mono ?_
            rintro e w6 ⟨rfl, b6⟩
            have HW6 : Hid (Wk W w6 wb b ab ag nt c s) := HW5.out.below b6
            have HB6 : Hid (Below W.heap.size W w6) := HB5.out.trans (b6.mono HB5.out.size)
            clear b6 HW5 HB5
            go_upto_region 21 with fail
            obtain ⟨top, ws, B, L, Th, lv, S6, hBs⟩ := HW6.out
            have HS6 : Hid (Ws W.heap.size w6 wb b ab ag nt c top ws B L Th lv) := S6
            have k0 := S6.wp.c0
            have k1 := S6.wp.c1
            have hnt : nt ≤ 8 := by have := S6.bw.bf.n1; have := S6.nt; omega
            have HQ : Hid (Calls Tryd.prog 19 #[.pointer (some ⟨b, 0, none⟩), .pointer (some ⟨ab, 0, none⟩)] w6.drew fun e w' => e = .returned (.tuple #[]) ∧ Bf w' b (bfs0 B.n B.size) ∧ Touch [b] w6.drew w') := bretire_any (S6.bw.below (below_drewN (Below.refl _ _) 1)).bf (.pointer (some ⟨ab, 0, none⟩))
            clear S6 hBs HW6
            refine quiet_tail 8 mixed (by kernel_rfl) ?_
            simp only [List.take_succ_cons, List.take_zero, List.drop_succ_cons, List.drop_zero]
            repeat (go_big_quiet_step (fail))
            refine wpQuiet_nil ?_
            go_wp2_with fail
            refine HQ.out.mono ?_
            rintro e w7 ⟨rfl, bf7, t7⟩
            have HS7 : Hid (Ws W.heap.size w7 wb b ab ag nt c top ws (bfs0 B.n B.size) L Th lv) := (HS6.out.below (below_drewN (Below.refl _ _) 1)).retire t7 bf7
            have HB7 : Hid (Below W.heap.size W w7) := (HB6.out.trans ((below_drewN (Below.refl _ _) 1).mono HB6.out.size)).trans (t7.below (by have := HB6.out.size; simp; omega) (fun z hz => by simp only [List.mem_cons, List.not_mem_nil, or_false] at hz; rw [hz]; exact HS6.out.bw.lo.1))
            clear HQ bf7 t7 k0 k1 HS6 HB6
            go_wp2
            go_loopw [13] (fun iv wr => ∃ m : Nat, iv = .int .i64 m ∧ m ≤ nt ∧ Hid (Below w7.heap.size w7 wr)) (fun iv _ => nt - (intOf iv).toNat)
            case atStart => exact ⟨0, rfl, by omega, Below.refl _ _⟩
            case round =>
              obtain ⟨m, rfl, hm, HBm⟩ := hrel
              have HSm : Hid (Ws W.heap.size wr wb b ab ag nt c top ws (bfs0 B.n B.size) L Th lv) := HS7.out.below HBm.out
              have k2 := HSm.out.wp.c2
              by_cases hml : m < nt
              · have hmi : (m : Int) < (nt : Int) := by omega
                have k1 := HSm.out.wp.c1
                have q : Calls Tryd.prog 12 #[.pointer (some ⟨b, 0, none⟩), .int .i64 m] wr fun e w' => e = .returned (.tuple #[.int .i64 0, .int .i64 0]) ∧ Below wr.heap.size wr w' := brest_yes HSm.out.bw.bf m (by have := HSm.out.nt; omega)
                go_wp2_with fail
                refine q.mono ?_
                rintro e w8 ⟨rfl, b8⟩
                have HB8 : Hid (Below w7.heap.size w7 w8) := HBm.out.trans (b8.mono HBm.out.size)
                clear q b8 k1 k2
                go_wp2
                go_roundw
                case rel => exact ⟨m + 1, by go_num, by omega, HB8⟩
                case measure => simp [intOf]; omega
              · have hmi : ¬ (m : Int) < (nt : Int) := by omega
                have q := whole_any HSm.out
                go_wp2_with fail
                refine q.mono ?_
                rintro e w9 ⟨rfl, b9⟩
                have HB8 : Hid (Below w7.heap.size w7 w9) := HBm.out.trans (b9.mono HBm.out.size)
                have HB9 : Hid (Below W.heap.size W w9) := HB7.out.trans (HB8.out.mono HB7.out.size)
                clear q b9 k2
                go_wp2
                go_ret
                exact ⟨rfl, HB9.out⟩
      · have hs0I : ¬ (s : Int) = 0 := by omega
        have HWt : Hid (Wk W v4 wb b ab ag nt c s) := HWr
        have HBt : Hid (Below W.heap.size W v4) := HBr
        clear HWr HBr
        go_upto_region 19 with fail
        have q := HWt.out.whole
        go_wp2_with fail
        refine q.mono ?_
        rintro e w5 ⟨rfl, b5⟩
        have HW5 : Hid (Wk W w5 wb b ab ag nt c s) := HWt.out.below b5
        have HB5 : Hid (Below W.heap.size W w5) := HBt.out.trans (b5.mono HBt.out.size)
        have q := many_any w5 (HL.out.1.keep HB5.out) ⟨Nat.lt_of_lt_of_le HL.out.2.1 HB5.out.size, Nat.lt_of_lt_of_le HL.out.2.2 HB5.out.size⟩
        clear b5 HWt HBt
        go_wp2_with fail
        refine q.mono ?_
        rintro e w6 ⟨rfl, b6⟩
        have HW6 : Hid (Wk W w6 wb b ab ag nt c s) := HW5.out.below b6
        have HB6 : Hid (Below W.heap.size W w6) := HB5.out.trans (b6.mono HB5.out.size)
        clear b6 HW5 HB5
        go_upto_region 21 with fail
        obtain ⟨top, ws, B, L, Th, lv, S6, hBs⟩ := HW6.out
        have HS6 : Hid (Ws W.heap.size w6 wb b ab ag nt c top ws B L Th lv) := S6
        have k0 := S6.wp.c0
        have k1 := S6.wp.c1
        have hnt : nt ≤ 8 := by have := S6.bw.bf.n1; have := S6.nt; omega
        have HQ : Hid (Calls Tryd.prog 19 #[.pointer (some ⟨b, 0, none⟩), .pointer (some ⟨ab, 0, none⟩)] w6.drew fun e w' => e = .returned (.tuple #[]) ∧ Bf w' b (bfs0 B.n B.size) ∧ Touch [b] w6.drew w') := bretire_any (S6.bw.below (below_drewN (Below.refl _ _) 1)).bf (.pointer (some ⟨ab, 0, none⟩))
        clear S6 hBs HW6
        refine quiet_tail 8 mixed (by kernel_rfl) ?_
        simp only [List.take_succ_cons, List.take_zero, List.drop_succ_cons, List.drop_zero]
        repeat (go_big_quiet_step (fail))
        refine wpQuiet_nil ?_
        go_wp2_with fail
        refine HQ.out.mono ?_
        rintro e w7 ⟨rfl, bf7, t7⟩
        have HS7 : Hid (Ws W.heap.size w7 wb b ab ag nt c top ws (bfs0 B.n B.size) L Th lv) := (HS6.out.below (below_drewN (Below.refl _ _) 1)).retire t7 bf7
        have HB7 : Hid (Below W.heap.size W w7) := (HB6.out.trans ((below_drewN (Below.refl _ _) 1).mono HB6.out.size)).trans (t7.below (by have := HB6.out.size; simp; omega) (fun z hz => by simp only [List.mem_cons, List.not_mem_nil, or_false] at hz; rw [hz]; exact HS6.out.bw.lo.1))
        clear HQ bf7 t7 k0 k1 HS6 HB6
        go_wp2
        go_loopw [13] (fun iv wr => ∃ m : Nat, iv = .int .i64 m ∧ m ≤ nt ∧ Hid (Below w7.heap.size w7 wr)) (fun iv _ => nt - (intOf iv).toNat)
        case atStart => exact ⟨0, rfl, by omega, Below.refl _ _⟩
        case round =>
          obtain ⟨m, rfl, hm, HBm⟩ := hrel
          have HSm : Hid (Ws W.heap.size wr wb b ab ag nt c top ws (bfs0 B.n B.size) L Th lv) := HS7.out.below HBm.out
          have k2 := HSm.out.wp.c2
          by_cases hml : m < nt
          · have hmi : (m : Int) < (nt : Int) := by omega
            have k1 := HSm.out.wp.c1
            have q : Calls Tryd.prog 12 #[.pointer (some ⟨b, 0, none⟩), .int .i64 m] wr fun e w' => e = .returned (.tuple #[.int .i64 0, .int .i64 0]) ∧ Below wr.heap.size wr w' := brest_yes HSm.out.bw.bf m (by have := HSm.out.nt; omega)
            go_wp2_with fail
            refine q.mono ?_
            rintro e w8 ⟨rfl, b8⟩
            have HB8 : Hid (Below w7.heap.size w7 w8) := HBm.out.trans (b8.mono HBm.out.size)
            clear q b8 k1 k2
            go_wp2
            go_roundw
            case rel => exact ⟨m + 1, by go_num, by omega, HB8⟩
            case measure => simp [intOf]; omega
          · have hmi : ¬ (m : Int) < (nt : Int) := by omega
            have q := whole_any HSm.out
            go_wp2_with fail
            refine q.mono ?_
            rintro e w9 ⟨rfl, b9⟩
            have HB8 : Hid (Below w7.heap.size w7 w9) := HBm.out.trans (b9.mono HBm.out.size)
            have HB9 : Hid (Below W.heap.size W w9) := HB7.out.trans (HB8.out.mono HB7.out.size)
            clear q b9 k2
            go_wp2
            go_ret
            exact ⟨rfl, HB9.out⟩

end Go.Proofs.YtpiemfchjlihfaaDoor
