/-
  whole: P13.6.
-/
import Derived.Test.YtpiemfchjlihfaaDoorBWb
set_option linter.unusedVariables false
set_option maxRecDepth 20000
namespace Go.Proofs.YtpiemfchjlihfaaDoor
open Go.RowKit Go.Shelf

section
variable {n0 : Nat} {w w' : World} {wb b ab ag nt : Nat} {c : Cfg} {top : Nat} {ws : Nat → Int} {B : Bfs} {L : List Sg} {Th : List Ob} {lv : Value}

theorem size13_any (s k p r a y : Int) (h : Bool) (p0 : 0 ≤ p) (p1 : p ≤ 70000) (r0 : 0 ≤ r) (r1 : r ≤ 70000) (w : World) :
    Calls Tryd.prog 17 #[hv s k p r a y h] w fun e w' => e = .returned (.int .i64 (2 + p + r)) ∧ Below w.heap.size w w' := by
  go_enter Tryd.func17, Tryd.ntmps17
  go_wp2
  go_ret
  refine ⟨rfl, ?_⟩
  first | exact Below.refl _ _ | exact Below.alloc (Below.refl _ _) (Nat.le_refl _) _ | go_grown

theorem own_sl {B : Nat} {w : World} {e : TypeId} {v : Value} {n : Nat} {xs : List Value} (h : w.ownsRow B e 1 v n xs) : ∃ a cap, v = .slice a n cap := by
  obtain ⟨hl, ⟨h0, h1⟩ | ⟨g, cap, cur, rfl, _⟩⟩ := h
  · subst h1; exact ⟨_, _, h0⟩
  · exact ⟨_, _, rfl⟩

theorem own_cell {B : Nat} {w : World} {a : Option Addr} {cap : Nat} {l : List Int} (h : w.ownsRow B 3 1 (.slice a l.length cap) l.length (ints l)) {k : Nat} {z : Int} (hk : l[k]? = some z) : ∃ q, a = some ⟨q, 0, none⟩ ∧ q < w.heap.size ∧ w.cell? ⟨q, k, none⟩ = some (.int .i64 z) := by
  have hi := (List.getElem?_eq_some_iff.1 hk).1
  rcases h.2 with ⟨h1, h2⟩ | ⟨q, cap', cur, h1, _, hg, hn, _, hs, ht⟩
  · omega
  · simp only [Value.slice.injEq] at h1
    refine ⟨q, h1.1, (Array.getElem?_eq_some_iff.1 hg).1, ?_⟩
    have h3 : (ints l)[k]? = some (.int .i64 z) := by simp [ints, hk]
    rw [cell_of_row _ _ k _ _ _ hg, ← h3, ← ht, List.getElem?_take, if_pos (by omega), Array.getElem?_toList]

theorem count_take (l : List Int) (k : Nat) (z x : Int) (hk : l[k]? = some z) : (l.take (k + 1)).count x = (l.take k).count x + (if z = x then 1 else 0) := by
  rw [List.take_add_one, hk, List.count_append]
  simp only [Option.toList, List.count_cons, List.count_nil, Nat.zero_add]
  by_cases h : z = x
  · simp [h]
  · rw [if_neg (by simpa using h), if_neg h]

theorem count_less : ∀ {L : List Sg} {ws : Nat → Int} {a top p : Nat}, Chn ws a top L → p < a → ((obs a L).map fun x => (x.1 : Int)).count (p : Int) = 0
  | [], ws, a, top, p, h, hp => by simp [obs]
  | g :: L, ws, a, top, p, h, hp => by
    have ih := count_less (p := p) h.2 (by omega)
    simp only [obs]
    split
    · rw [List.map_cons, List.count_cons, ih, if_neg (by simp; omega)]
    · exact ih

theorem count_one : ∀ {L : List Sg} {ws : Nat → Int} {a top p n : Nat}, Chn ws a top L → (p, n) ∈ obs a L → ((obs a L).map fun x => (x.1 : Int)).count (p : Int) = 1
  | [], ws, a, top, p, n, h, hp => by simp [obs] at hp
  | g :: L, ws, a, top, p, n, h, hp => by
    have hpos := h.1.pos
    simp only [obs] at hp ⊢
    split
    · rename_i o e
      rw [e] at hp
      simp only [List.mem_cons] at hp
      rw [List.map_cons, List.count_cons]
      rcases hp with hp | hp
      · have e1 : p = a := by simpa using congrArg Prod.fst hp
        rw [count_less h.2 (by omega), if_pos (by simp [e1])]
      · have hin := (mem_obs.1 hp)
        obtain ⟨m, s, hA⟩ := hin
        have := hA.in
        rw [count_one h.2 hp, if_neg (by simp; omega)]
    · rename_i e
      rw [e] at hp
      exact count_one h.2 hp

/-- How often an address is met. -/
theorem met_once (S : Ws n0 w wb b ab ag nt c top ws B L Th lv) {T : Ob} (hT : T ∈ Th) : (((obs 1 L).map fun x => (x.1 : Int)).count (T.at_ : Int)) = 1 :=
  count_one S.wo.ch (S.wo.ob.mem_iff.2 (List.mem_map.2 ⟨T, hT, rfl⟩))

set_option maxHeartbeats 16000000 in
theorem whole_any (S : Ws n0 w wb b ab ag nt c top ws B L Th lv) :
    Calls Tryd.prog 16 #[.pointer (some ⟨wb, 0, none⟩)] w fun e w' => e = .returned (.bool true) ∧ Below w.heap.size w w' := by
  have HS : Hid (Ws n0 w wb b ab ag nt c top ws B L Th lv) := S
  obtain ⟨la, lc, hlv⟩ := S.mo.sl
  have hnt : nt ≤ 8 := by have := S.bw.bf.n1; have := S.nt; omega
  have htl := S.topl.1
  have hlen : (obs 1 L).length = Th.length := by have := S.wo.ob.length_eq; simpa using this
  have hTl : Th.length ≤ 40000 := by
    have h1 := obs_length S.wo.ch
    have h2 := S.wo.ch.top
    omega
  obtain ⟨l, hl⟩ : ∃ l : List Int, l = (obs 1 L).map fun x => (x.1 : Int) := ⟨_, rfl⟩
  have hll : l.length = Th.length := by rw [hl, List.length_map]; exact hlen
  have HM : Hid (∀ T, T ∈ Th → l.count (T.at_ : Int) = 1) := fun T hT => by rw [hl]; exact met_once S hT
  have q := walk13_any S.wp S.bw.ar S.bw.ld S.wo.ch
  rw [← hl, hlen, ← hll] at q
  subst hlv
  clear S hl hlen
  go_enter Tryd.func16, Tryd.ntmps16
  go_wp2_with fail
  refine q.mono ?_
  rintro e9 w1 ⟨v, rfl, r1, b1⟩
  obtain ⟨va, vc, rfl⟩ := own_sl r1
  have HB1 : Hid (Below w.heap.size w w1) := b1
  have HR1 : Hid (w1.ownsRow w.heap.size 3 1 (.slice va l.length vc) l.length (ints l)) := r1
  have HS1 : Hid (Ws n0 w1 wb b ab ag nt c top ws B L Th (.slice la Th.length lc)) := HS.out.below b1
  have k3 := HS1.out.c3
  have hlI : ((l.length : Int) != (Th.length : Int)) = false := by rw [hll]; simp
  have Hll : Hid (l.length = Th.length) := hll
  clear q r1 b1 hll
  go_upto_region 5 with fail
  clear k3 hlI
  go_loopw [5] (fun i wr => ∃ (m : Nat), i = .int .i64 m ∧ m ≤ Th.length ∧ Hid (Below w1.heap.size w1 wr)) (fun i _ => Th.length - (intOf i).toNat)
  case atStart => exact ⟨0, rfl, by omega, Below.refl _ _⟩
  case round =>
    obtain ⟨m, rfl, hm, HBr⟩ := hrel
    have HSr : Hid (Ws n0 wr wb b ab ag nt c top ws B L Th (.slice la Th.length lc)) := HS1.out.below HBr.out
    have k3 := HSr.out.c3
    by_cases hlt : m < Th.length
    · have hli : (m : Int) < Th.length := by omega
      obtain ⟨T, hT⟩ : ∃ T, Th[m]? = some T := ⟨_, List.getElem?_eq_getElem hlt⟩
      have HT : Hid (T ∈ Th) := List.mem_of_getElem? hT
      obtain ⟨q9, hla, hq9, hcs⟩ := HSr.out.mo.cell hT
      rw [hla] at k3
      have v0 : wr.cell? ⟨q9, m * 9, none⟩ = some (.int .i64 T.at_) := hcs 0 (by omega)
      have v1 : wr.cell? ⟨q9, m * 9 + 1, none⟩ = some (.int .u64 T.s) := hcs 1 (by omega)
      have v2 : wr.cell? ⟨q9, m * 9 + 2, none⟩ = some (.int .i64 T.k) := hcs 2 (by omega)
      have v3 : wr.cell? ⟨q9, m * 9 + 3, none⟩ = some (.int .i64 T.p) := hcs 3 (by omega)
      have v4 : wr.cell? ⟨q9, m * 9 + 4, none⟩ = some (.int .i64 T.r) := hcs 4 (by omega)
      have v5 : wr.cell? ⟨q9, m * 9 + 5, none⟩ = some (.int .i64 T.a) := hcs 5 (by omega)
      have v6 : wr.cell? ⟨q9, m * 9 + 6, none⟩ = some (.int .i64 T.y) := hcs 6 (by omega)
      have v7 : wr.cell? ⟨q9, m * 9 + 7, none⟩ = some (.bool T.h) := hcs 7 (by omega)
      have v8 : wr.cell? ⟨q9, m * 9 + 8, none⟩ = some (.slice (some ⟨T.gr, 0, none⟩) T.r T.r) := hcs 8 (by omega)
      clear hcs hq9 hla
      go_upto_region 10 with fail
      have HX2 : Hid ((wr.alloc (.cells T.cells 56)).heap[wr.heap.size]? = some (.cells T.cells 56 (0, 0))) := heap_alloc_new wr _
      have HB2 : Hid (Below w1.heap.size w1 (wr.alloc (.cells T.cells 56))) := Below.alloc HBr.out HBr.out.size _
      clear k3 v0 v1 v2 v3 v4 v5 v6 v7 v8 HSr
      obtain ⟨w2, hw2⟩ : ∃ w2, w2 = wr.alloc (.cells T.cells 56) := ⟨_, rfl⟩
      rw [← hw2] at HX2 HB2 ⊢
      obtain ⟨X, hX⟩ : ∃ X, X = wr.heap.size := ⟨_, rfl⟩
      rw [← hX] at HX2 ⊢
      have HBR : Hid (Below w1.heap.size w1 w2) := HB2.out
      clear hw2 hX HBr
      go_loopw [7, 8] (fun mt i wr => ∃ (k : Nat), i = .int .i64 k ∧ k ≤ l.length ∧ mt = .int .i64 ((l.take k).count (T.at_ : Int) : Nat) ∧ Hid (Below w2.heap.size w2 wr)) (fun _ i _ => l.length - (intOf i).toNat)
      case atStart => exact ⟨0, rfl, by omega, by simp, Below.refl _ _⟩
      case round =>
        obtain ⟨k, rfl, hk, rfl, HBk⟩ := hrel
        by_cases hkl : k < l.length
        · have hki : (k : Int) < l.length := by omega
          obtain ⟨z, hz⟩ : ∃ z, l[k]? = some z := ⟨_, List.getElem?_eq_getElem hkl⟩
          have HBz : Hid (Below w1.heap.size w1 wr) := HB2.out.trans (HBk.out.mono HB2.out.size)
          obtain ⟨q8, hva, hq8, vz⟩ := own_cell (row_keep HR1.out (fun q hq => HBz.out.block q (row_lt HR1.out q hq))) hz
          have xt0 : wr.cell? ⟨X, 0, none⟩ = some (.int .i64 T.at_) := cell_of_row _ _ 0 _ _ _ ((HBk.out.block X (Array.getElem?_eq_some_iff.1 HX2.out).1).trans HX2.out)
          have hct := count_take l k z T.at_ hz
          have hcl : (l.take k).count (T.at_ : Int) ≤ l.length := Nat.le_trans List.count_le_length (by simp; omega)
          have Hct : Hid ((l.take (k + 1)).count (T.at_ : Int) = (l.take k).count (T.at_ : Int) + (if z = T.at_ then 1 else 0)) := hct
          obtain ⟨cn, hcn⟩ : ∃ cn, cn = (l.take k).count (T.at_ : Int) := ⟨_, rfl⟩
          have Hcn : Hid (cn = (l.take k).count (T.at_ : Int)) := hcn
          rw [← hcn] at hcl ⊢
          clear hct hcn hz hq8
          have hll4 : l.length ≤ 40000 := by have := Hll.out; omega
          subst hva
          by_cases hzt : z = T.at_
          · have hzt' : (z == (T.at_ : Int)) = true := by simpa using hzt
            go_upto_region 12 with fail
            go_quiet (fail)
            have HBq : Hid (Below w2.heap.size w2 (wr.drewN nq)) := below_drewN HBk.out nq
            clear vz xt0 HBk HBz
            go_wp2
            go_roundw
            case rel => exact ⟨k + 1, by go_num, by omega, by rw [Hct.out, ← Hcn.out, if_pos hzt]; go_num, HBq⟩
            case measure => simp [intOf]; omega
          · have hzt' : (z == (T.at_ : Int)) = false := by simpa using hzt
            go_upto_region 12 with fail
            go_quiet (fail)
            have HBq : Hid (Below w2.heap.size w2 (wr.drewN nq)) := below_drewN HBk.out nq
            clear vz xt0 HBk HBz
            go_wp2
            go_roundw
            case rel => exact ⟨k + 1, by go_num, by omega, by rw [Hct.out, ← Hcn.out, if_neg hzt]; simp, HBq⟩
            case measure => simp [intOf]; omega
        · have hki : ¬ (k : Int) < l.length := by omega
          obtain rfl : k = l.length := by omega
          rw [List.take_length, HM.out T HT.out]
          obtain ⟨w3, hw3⟩ : ∃ v, v = wr := ⟨_, rfl⟩
          subst hw3
          have HB3 : Hid (Below w1.heap.size w1 w3) := HB2.out.trans (HBk.out.mono HB2.out.size)
          have HX3 : Hid (w3.heap[X]? = some (.cells T.cells 56 (0, 0))) := (HBk.out.block X (Array.getElem?_eq_some_iff.1 HX2.out).1).trans HX2.out
          have HS3 : Hid (Ws n0 w3 wb b ab ag nt c top ws B L Th (.slice la Th.length lc)) := HS1.out.below HB3.out
          have k0 := HS3.out.wp.c0
          have xt0 : w3.cell? ⟨X, 0, none⟩ = some (.int .i64 T.at_) := cell_of_row _ _ 0 _ _ _ HX3.out
          have HHd : Hid (∀ W, Below w3.heap.size w3 W → Calls Tryd.prog 37 #[.pointer (some ⟨ab, 0, none⟩), .int .i64 T.at_] W fun e w' => e = .returned (.tuple #[hv T.s T.k T.p T.r T.a T.y T.h, .bool true]) ∧ Below W.heap.size W w') := fun W l => (HS3.out.below l).head HT.out
          clear HBk HX2 HB2 HBR
          go_upto_region 14 with fail
          have bd : Below w3.heap.size w3 w3.drew := below_drewN (Below.refl _ _) 1
          have bd1 : ∀ o', Below w3.heap.size w3 (w3.alloc o').drew := fun o' => below_drewN (Below.alloc (Below.refl _ _) (Nat.le_refl _) o') 1
          have xta : (w3.alloc (.cells #[.int .u64 0, .int .i64 0, .int .i64 0, .int .i64 0, .int .i64 0, .int .i64 0, .bool false] 38)).cell? ⟨X, 0, none⟩ = some (.int .i64 T.at_) := Lib.cell?_alloc_some _ xt0
          have k0a : (w3.alloc (.cells #[.int .u64 0, .int .i64 0, .int .i64 0, .int .i64 0, .int .i64 0, .int .i64 0, .bool false] 38)).cell? ⟨wb, 0, none⟩ = some (.pointer (some ⟨ab, 0, none⟩)) := Lib.cell?_alloc_some _ k0
          go_cut [9, 10] from 68 to 77 (fun v9 v10 wq => ∃ Y, v9 = .pointer (some ⟨Y, 0, none⟩) ∧ v10 = .bool true ∧ Box wq Y (.int .u64 T.s) (.int .i64 T.k) (.int .i64 T.p) (.int .i64 T.r) (.int .i64 T.a) (.int .i64 T.y) (.bool T.h) ∧ Below w3.heap.size w3 wq)
          case first =>
            go_region_with (go_at_call 37; refine (HHd.out _ (by first | exact bd | exact bd1 _)).mono ?_; rintro e w4 ⟨rfl, l1⟩; (first | (have lb : Below w3.heap.size w3 w4 := bd.trans (l1.mono bd.size)) | (obtain ⟨hz, ⟨y0, y1, y2, y3, y4, y5, y6, f0, f1, f2, f3, f4, f5, f6⟩, lb⟩ := box_over l1)))
            all_goals (go_wp2_with fail; go_meet; first | (have q1 := seven_box (.int .u64 T.s) (.int .i64 T.k) (.int .i64 T.p) (.int .i64 T.r) (.int .i64 T.a) (.int .i64 T.y) (.bool T.h) hz.out; have q2 := seven_below (.int .u64 T.s) (.int .i64 T.k) (.int .i64 T.p) (.int .i64 T.r) (.int .i64 T.a) (.int .i64 T.y) (.bool T.h) lb (Nat.le_refl _); exact ⟨_, rfl, rfl, q1, q2⟩) | exact ⟨_, rfl, rfl, Box.new _ _ _ _ _ _ _ _ _, Below.alloc lb lb.size _⟩)
          case rest =>
          obtain ⟨Y, rfl, rfl, hY, bb⟩ := hcut
          have HB5 : Hid (Below w1.heap.size w1 wc) := HB3.out.trans (bb.mono HB3.out.size)
          have HX5 : Hid (wc.heap[X]? = some (.cells T.cells 56 (0, 0))) := (bb.block X (Array.getElem?_eq_some_iff.1 HX3.out).1).trans HX3.out
          clear bd bd1 xta k0a xt0 k0 HHd HS3 HX3 HB3 bb
          obtain ⟨y0, y1, y2, y3, y4, y5, y6, -, -, -, -, -, -, -⟩ := hY
          have x1 : wc.cell? ⟨X, 1, none⟩ = some (.int .u64 T.s) := cell_of_row _ _ 1 _ _ _ HX5.out
          have x2 : wc.cell? ⟨X, 2, none⟩ = some (.int .i64 T.k) := cell_of_row _ _ 2 _ _ _ HX5.out
          have x3 : wc.cell? ⟨X, 3, none⟩ = some (.int .i64 T.p) := cell_of_row _ _ 3 _ _ _ HX5.out
          have x4 : wc.cell? ⟨X, 4, none⟩ = some (.int .i64 T.r) := cell_of_row _ _ 4 _ _ _ HX5.out
          have x5 : wc.cell? ⟨X, 5, none⟩ = some (.int .i64 T.a) := cell_of_row _ _ 5 _ _ _ HX5.out
          have x6 : wc.cell? ⟨X, 6, none⟩ = some (.int .i64 T.y) := cell_of_row _ _ 6 _ _ _ HX5.out
          have x7 : wc.cell? ⟨X, 7, none⟩ = some (.bool T.h) := cell_of_row _ _ 7 _ _ _ HX5.out
          go_upto_region 18 with fail
          clear y0 y1 y2 y3 y4 y5 y6 x1 x2 x3 x4 x5 x6 x7
          obtain ⟨w5, hw5⟩ : ∃ v, v = wc := ⟨_, rfl⟩
          subst hw5
          have hTp : T.p ≤ 4095 ∧ T.r ≤ 65535 := by
            have m9 := May.of (HS.out.wo.th T HT.out).f
            have := m9.p1
            have := m9.r1
            omega
          have hTat : T.at_ + (2 + T.p + T.r) ≤ top := (HS.out.stands HT.out).2.2.2.2.2.2.2
          have HXl : Hid (X < w5.heap.size) := (Array.getElem?_eq_some_iff.1 HX5.out).1
          go_loopw [11] (fun i wr => ∃ (k : Nat), i = .int .i64 k ∧ k ≤ T.p ∧ Hid (Below w5.heap.size w5 wr)) (fun i _ => T.p - (intOf i).toNat)
          case atStart => exact ⟨0, rfl, by omega, Below.refl _ _⟩
          case round =>
            obtain ⟨k, rfl, hk, HBk⟩ := hrel
            have HXk : Hid (wr.heap[X]? = some (.cells T.cells 56 (0, 0))) := (HBk.out.block X HXl.out).trans HX5.out
            have x3 : wr.cell? ⟨X, 3, none⟩ = some (.int .i64 T.p) := cell_of_row _ _ 3 _ _ _ HXk.out
            by_cases hkp : k < T.p
            · have hki : (k : Int) < T.p := by omega
              have HSk : Hid (Ws n0 wr wb b ab ag nt c top ws B L Th (.slice la Th.length lc)) := HS1.out.below (HB5.out.trans (HBk.out.mono HB5.out.size))
              go_upto_region 20 with fail
              clear x3
              have hXl : X < wr.heap.size := (Array.getElem?_eq_some_iff.1 HXk.out).1
              have hWl : wb < wr.heap.size := (Array.getElem?_eq_some_iff.1 HSk.out.wq).1
              haveI hinh : Inhabited (Kg.Bel wr) := ⟨⟨wr, Below.refl _ _⟩⟩
              have z0 : ∀ p : Kg.Bel wr, p.v.cell? ⟨X, 0, none⟩ = some (.int .i64 T.at_) := fun p => (p.h.cell (p := ⟨X, 0, none⟩) hXl).trans (cell_of_row _ _ 0 _ _ _ HXk.out)
              have z1 : ∀ p : Kg.Bel wr, p.v.cell? ⟨wb, 0, none⟩ = some (.pointer (some ⟨ab, 0, none⟩)) := fun p => (p.h.cell (p := ⟨wb, 0, none⟩) hWl).trans HSk.out.wp.c0
              have HCl : Hid (∀ p : Kg.Bel wr, Calls Tryd.prog 38 #[.pointer (some ⟨ab, 0, none⟩), .int .i64 T.at_, .int .i64 k] p.v fun e w' => e = .returned (.tuple #[.int .i64 0, .bool true]) ∧ Below p.v.heap.size p.v w') := fun p => (HSk.out.below p.h).ptr HT.out hkp
              clear hXl hWl HSk HXk
              refine Kg.region_below Kg.mixed (by kernel_rfl) ?_
              repeat (go_big_quiet_step (first | (go_at_call 38; exact Kg.calls_bel (HCl.out _))))
              refine wpQuiet_nil ?_
              rintro w8 ⟨⟨w8, b8⟩, rfl⟩
              have HBq : Hid (Below w5.heap.size w5 w8) := HBk.out.trans (b8.mono HBk.out.size)
              clear z0 z1 HCl hinh b8 HBk
              go_wp2
              go_roundw
              case rel => exact ⟨k + 1, by go_num, by omega, HBq⟩
              case measure => simp [intOf]; omega
            · have hki : ¬ (k : Int) < T.p := by omega
              go_upto_region 24 with fail
              clear x3
              obtain ⟨w6, hw6⟩ : ∃ v, v = wr := ⟨_, rfl⟩
              subst hw6
              have HB6 : Hid (Below w5.heap.size w5 w6) := HBk.out
              clear HBk HXk hki hkp hk
              go_loopw [14] (fun i wr => ∃ (k : Nat), i = .int .i64 k ∧ k ≤ T.r ∧ Hid (Below w6.heap.size w6 wr)) (fun i _ => T.r - (intOf i).toNat)
              case atStart => exact ⟨0, rfl, by omega, Below.refl _ _⟩
              case round =>
                obtain ⟨k, rfl, hk, HBk⟩ := hrel
                have HB5k : Hid (Below w5.heap.size w5 wr) := HB6.out.trans (HBk.out.mono HB6.out.size)
                have HXk : Hid (wr.heap[X]? = some (.cells T.cells 56 (0, 0))) := (HB5k.out.block X HXl.out).trans HX5.out
                have x8 : wr.cell? ⟨X, 8, none⟩ = some (.slice (some ⟨T.gr, 0, none⟩) T.r T.r) := cell_of_row _ _ 8 _ _ _ HXk.out
                by_cases hkp : k < T.r
                · have hki : (k : Int) < T.r := by omega
                  have HSk : Hid (Ws n0 wr wb b ab ag nt c top ws B L Th (.slice la Th.length lc)) := HS1.out.below (HB5.out.trans (HB5k.out.mono HB5.out.size))
                  go_upto_region 26 with fail
                  clear x8
                  have hXl : X < wr.heap.size := (Array.getElem?_eq_some_iff.1 HXk.out).1
                  have hWl : wb < wr.heap.size := (Array.getElem?_eq_some_iff.1 HSk.out.wq).1
                  haveI hinh : Inhabited (Kg.Bel wr) := ⟨⟨wr, Below.refl _ _⟩⟩
                  have z0 : ∀ p : Kg.Bel wr, p.v.cell? ⟨X, 0, none⟩ = some (.int .i64 T.at_) := fun p => (p.h.cell (p := ⟨X, 0, none⟩) hXl).trans (cell_of_row _ _ 0 _ _ _ HXk.out)
                  have z1 : ∀ p : Kg.Bel wr, p.v.cell? ⟨wb, 0, none⟩ = some (.pointer (some ⟨ab, 0, none⟩)) := fun p => (p.h.cell (p := ⟨wb, 0, none⟩) hWl).trans HSk.out.wp.c0
                  have HCl : Hid (∀ p : Kg.Bel wr, Calls Tryd.prog 39 #[.pointer (some ⟨ab, 0, none⟩), .int .i64 T.at_, .int .i64 k] p.v fun e w' => e = .returned (.tuple #[.int .u64 (T.raws k), .bool true]) ∧ Below p.v.heap.size p.v w') := fun p => (HSk.out.below p.h).raw HT.out hkp
                  obtain ⟨V, hV⟩ : ∃ V, V = T.raws k := ⟨_, rfl⟩
                  rw [← hV] at HCl
                  have HV : Hid (V = T.raws k) := hV
                  clear hXl hWl hV
                  refine Kg.region_below Kg.mixed (by kernel_rfl) ?_
                  repeat (go_big_quiet_step (first | (go_at_call 39; exact Kg.calls_bel (HCl.out _))))
                  refine wpQuiet_nil ?_
                  rintro w8 ⟨⟨w8, b8⟩, rfl⟩
                  have HBq : Hid (Below w6.heap.size w6 w8) := HBk.out.trans (b8.mono HBk.out.size)
                  have x8 : w8.cell? ⟨X, 8, none⟩ = some (.slice (some ⟨T.gr, 0, none⟩) T.r T.r) := cell_of_row _ _ 8 _ _ _ ((b8.block X (Array.getElem?_eq_some_iff.1 HXk.out).1).trans HXk.out)
                  have xr : w8.cell? ⟨T.gr, k, none⟩ = some (.int .u64 V) := by rw [HV.out]; exact ((HSk.out.below b8).mo.rb T HT.out).1.cell hkp
                  have nV : (V != V) = false := by simp
                  clear z0 z1 HCl hinh b8 HBk HSk HXk HB5k
                  go_wp2
                  go_roundw
                  case rel => exact ⟨k + 1, by go_num, by omega, HBq⟩
                  case measure => simp [intOf]; omega
                · have hki : ¬ (k : Int) < T.r := by omega
                  go_upto_region 30 with fail
                  clear x8
                  obtain ⟨w7, hw7⟩ : ∃ v, v = wr := ⟨_, rfl⟩
                  subst hw7
                  have HB7 : Hid (Below w5.heap.size w5 w7) := HB5k.out
                  clear HBk HXk hki hkp hk HB5k
                  go_loopw [17] (fun i wr => ∃ (t : Nat), i = .int .i64 t ∧ t ≤ nt ∧ Hid (Below w7.heap.size w7 wr)) (fun i _ => nt - (intOf i).toNat)
                  case atStart => exact ⟨0, rfl, by omega, Below.refl _ _⟩
                  case round =>
                    obtain ⟨t, rfl, ht, HBk⟩ := hrel
                    have HB5k : Hid (Below w5.heap.size w5 wr) := HB7.out.trans (HBk.out.mono HB7.out.size)
                    have HB1k : Hid (Below w1.heap.size w1 wr) := HB5.out.trans (HB5k.out.mono HB5.out.size)
                    have HSk : Hid (Ws n0 wr wb b ab ag nt c top ws B L Th (.slice la Th.length lc)) := HS1.out.below HB1k.out
                    have k2 := HSk.out.wp.c2
                    have k1 := HSk.out.wp.c1
                    by_cases htn : t < nt
                    · have hti : (t : Int) < nt := by omega
                      obtain ⟨q, n, hq, hn, hz, hp, hq7, hn7⟩ := HS.out.rest (t := t) (by omega)
                      have qr := brest_yes HSk.out.bw.bf t (by have := HS.out.nt; omega)
                      rw [hq, hn] at qr
                      have hap : 0 < n → T.at_ + (2 + T.p + T.r) ≤ q ∨ q + n ≤ T.at_ := fun h9 => by
                        obtain ⟨-, -, hA⟩ := hp h9
                        rcases (HS.out.wo.th T HT.out).at_.apart hA with ⟨_, e⟩ | h8 | h8
                        · injection e with e1 e2; cases e2
                        · exact .inl h8
                        · exact .inr h8
                      clear hq hn hz hp
                      go_wp2_with fail
                      refine qr.mono ?_
                      rintro e9 wd ⟨rfl, b6⟩
                      have HBd : Hid (Below w7.heap.size w7 wd) := HBk.out.trans (b6.mono HBk.out.size)
                      have HXd : Hid (wd.heap[X]? = some (.cells T.cells 56 (0, 0))) := ((HB5k.out.trans (b6.mono HB5k.out.size)).block X HXl.out).trans HX5.out
                      clear qr b6 k1 k2 HSk HBk HB5k HB1k
                      have hXl : X < wd.heap.size := (Array.getElem?_eq_some_iff.1 HXd.out).1
                      haveI hinh : Inhabited (Kg.Bel wd) := ⟨⟨wd, Below.refl _ _⟩⟩
                      have z0 : ∀ p : Kg.Bel wd, p.v.cell? ⟨X, 0, none⟩ = some (.int .i64 T.at_) := fun p => (p.h.cell (p := ⟨X, 0, none⟩) hXl).trans (cell_of_row _ _ 0 _ _ _ HXd.out)
                      have z1 : ∀ p : Kg.Bel wd, p.v.cell? ⟨X, 1, none⟩ = some (.int .u64 T.s) := fun p => (p.h.cell (p := ⟨X, 1, none⟩) hXl).trans (cell_of_row _ _ 1 _ _ _ HXd.out)
                      have z2 : ∀ p : Kg.Bel wd, p.v.cell? ⟨X, 2, none⟩ = some (.int .i64 T.k) := fun p => (p.h.cell (p := ⟨X, 2, none⟩) hXl).trans (cell_of_row _ _ 2 _ _ _ HXd.out)
                      have z3 : ∀ p : Kg.Bel wd, p.v.cell? ⟨X, 3, none⟩ = some (.int .i64 T.p) := fun p => (p.h.cell (p := ⟨X, 3, none⟩) hXl).trans (cell_of_row _ _ 3 _ _ _ HXd.out)
                      have z4 : ∀ p : Kg.Bel wd, p.v.cell? ⟨X, 4, none⟩ = some (.int .i64 T.r) := fun p => (p.h.cell (p := ⟨X, 4, none⟩) hXl).trans (cell_of_row _ _ 4 _ _ _ HXd.out)
                      have z5 : ∀ p : Kg.Bel wd, p.v.cell? ⟨X, 5, none⟩ = some (.int .i64 T.a) := fun p => (p.h.cell (p := ⟨X, 5, none⟩) hXl).trans (cell_of_row _ _ 5 _ _ _ HXd.out)
                      have z6 : ∀ p : Kg.Bel wd, p.v.cell? ⟨X, 6, none⟩ = some (.int .i64 T.y) := fun p => (p.h.cell (p := ⟨X, 6, none⟩) hXl).trans (cell_of_row _ _ 6 _ _ _ HXd.out)
                      have z7 : ∀ p : Kg.Bel wd, p.v.cell? ⟨X, 7, none⟩ = some (.bool T.h) := fun p => (p.h.cell (p := ⟨X, 7, none⟩) hXl).trans (cell_of_row _ _ 7 _ _ _ HXd.out)
                      have HCl : Hid (∀ p : Kg.Bel wd, Calls Tryd.prog 17 #[hv T.s T.k T.p T.r T.a T.y T.h] p.v fun e w' => e = .returned (.int .i64 (2 + T.p + T.r)) ∧ Below p.v.heap.size p.v w') := fun p => size13_any T.s T.k T.p T.r T.a T.y T.h (by omega) (by omega) (by omega) (by omega) p.v
                      clear hXl HXd
                      by_cases hn0 : 0 < n
                      · have hnI : (0 : Int) < n := by omega
                        rcases hap hn0 with h9 | h9
                        · have h8 : (T.at_ : Int) < (q : Int) + n := by omega
                          have h8n : T.at_ < q + n := by omega
                          have h7 : ¬ (q : Int) < (T.at_ : Int) + (2 + T.p + T.r) := by omega
                          have h7n : ¬ q < T.at_ + (2 + T.p + T.r) := by omega
                          go_upto_region 33 with fail
                          refine Kg.region_below Kg.mixed (by kernel_rfl) ?_
                          repeat (go_big_quiet_step (first | (go_at_call 17; exact Kg.calls_bel (HCl.out _))))
                          refine wpQuiet_nil ?_
                          rintro w8 ⟨⟨w8, b8⟩, rfl⟩
                          have HBq : Hid (Below w7.heap.size w7 w8) := HBd.out.trans (b8.mono HBd.out.size)
                          clear z0 z1 z2 z3 z4 z5 z6 z7 HCl hinh b8
                          go_wp2
                          go_roundw
                          case rel => exact ⟨t + 1, by go_num, by omega, HBq⟩
                          case measure => simp [intOf]; omega
                        · have h8 : ¬ (T.at_ : Int) < (q : Int) + n := by omega
                          have h8n : ¬ T.at_ < q + n := by omega
                          have h8l : (q : Int) + n ≤ T.at_ := by omega
                          go_upto_region 33 with fail
                          refine Kg.region_below Kg.mixed (by kernel_rfl) ?_
                          repeat (go_big_quiet_step (first | (go_at_call 17; exact Kg.calls_bel (HCl.out _))))
                          rw [decide_eq_false (show ¬ ((T.at_ : Int) < (q : Int) + n) by omega)]
                          repeat (go_big_quiet_step (first | (go_at_call 17; exact Kg.calls_bel (HCl.out _))))
                          refine wpQuiet_nil ?_
                          rintro w8 ⟨⟨w8, b8⟩, rfl⟩
                          have HBq : Hid (Below w7.heap.size w7 w8) := HBd.out.trans (b8.mono HBd.out.size)
                          clear z0 z1 z2 z3 z4 z5 z6 z7 HCl hinh b8
                          go_wp2
                          go_roundw
                          case rel => exact ⟨t + 1, by go_num, by omega, HBq⟩
                          case measure => simp [intOf]; omega
                      · have hnI : ¬ (0 : Int) < n := by omega
                        go_upto_region 33 with fail
                        refine Kg.region_below Kg.mixed (by kernel_rfl) ?_
                        repeat (go_big_quiet_step (first | (go_at_call 17; exact Kg.calls_bel (HCl.out _))))
                        refine wpQuiet_nil ?_
                        rintro w8 ⟨⟨w8, b8⟩, rfl⟩
                        have HBq : Hid (Below w7.heap.size w7 w8) := HBd.out.trans (b8.mono HBd.out.size)
                        clear z0 z1 z2 z3 z4 z5 z6 z7 HCl hinh b8
                        go_wp2
                        go_roundw
                        case rel => exact ⟨t + 1, by go_num, by omega, HBq⟩
                        case measure => simp [intOf]; omega
                    · have hti : ¬ (t : Int) < nt := by omega
                      have HBo : Hid (Below w1.heap.size w1 wr) := HB1k.out
                      clear k1
                      go_wp2
                      go_roundw
                      case rel => exact ⟨m + 1, by go_num, by omega, HBo⟩
                      case measure => simp [intOf]; omega
    · have hli : ¬ (m : Int) < Th.length := by omega
      have HBz : Hid (Below w.heap.size w wr) := HB1.out.trans (HBr.out.mono HB1.out.size)
      have q := rests_any HSr.out
      go_wp2_with fail
      refine q.mono ?_
      rintro e9 wz ⟨rfl, bz⟩
      have HBy : Hid (Below w.heap.size w wz) := HBz.out.trans (bz.mono HBz.out.size)
      clear q bz
      go_wp2
      go_returns
      exact ⟨rfl, HBy.out⟩

end
end Go.Proofs.YtpiemfchjlihfaaDoor
