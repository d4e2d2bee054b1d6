/-
  The two arenas side by side: walks that were taken and kept.
-/
import Derived.Test.YtbdkcelggffneaaGreatDoorB35
set_option linter.unusedVariables false
set_option maxRecDepth 20000
namespace Go.Proofs.YtbdkcelggffneaaGreatDoor
open Go.RowKit Go.Shelf

/-- A walk as it is kept: the blocks of its two variables, and its space. -/
structure Wlk where
  ca : Nat
  cs : Nat
  s : Int

abbrev Wlk.v (k : Wlk) : Value := itv k.ca k.cs

/-- The walks that a both keeps; G: the blocks of its two rows. -/
structure Kept (w : World) (p a r : Nat) (base : Nat) (ks : List Wlk) (v2 v3 : Value) : Prop where
  pb : w.heap[p]? = some (.cells #[.pointer (some ⟨a, 0, none⟩), .pointer (some ⟨r, 0, none⟩), v2, v3] 39 (0, 0))
  r2 : w.ownsRow base 78 1 v2 ks.length (ks.map Wlk.v)
  r3 : w.ownsRow base 3 1 v3 ks.length (ks.map fun k => Value.int .i64 k.s)
  len : ks.length ≤ 64
  ca : ∀ k, k ∈ ks → w.cell? ⟨k.ca, 0, none⟩ = some (.pointer (some ⟨a, 0, none⟩)) ∧ base ≤ k.ca
  cs : ∀ k, k ∈ ks → w.cell? ⟨k.cs, 0, none⟩ = some (.int .i64 k.s) ∧ base ≤ k.cs

theorem Kept.c2 {w : World} {p a r base : Nat} {ks : List Wlk} {v2 v3 : Value} (h : Kept w p a r base ks v2 v3) : w.cell? ⟨p, 2, none⟩ = some v2 := cell_of_row _ _ 2 _ _ _ h.pb
theorem Kept.c3 {w : World} {p a r base : Nat} {ks : List Wlk} {v2 v3 : Value} (h : Kept w p a r base ks v2 v3) : w.cell? ⟨p, 3, none⟩ = some v3 := cell_of_row _ _ 3 _ _ _ h.pb

theorem Kept.below {w w' : World} {p a r base : Nat} {ks : List Wlk} {v2 v3 : Value} (h : Kept w p a r base ks v2 v3) (l : Below w.heap.size w w') : Kept w' p a r base ks v2 v3 := by
  have hpl : p < w.heap.size := (Array.getElem?_eq_some_iff.1 h.pb).1
  have cl : ∀ {q : Addr} {u : Value}, w.cell? q = some u → w'.cell? q = some u := fun hq => (l.cell (World.block_lt_of_cell? _ _ hq)).trans hq
  exact ⟨(l.block p hpl).trans h.pb, row_keep h.r2 (fun q hq => l.block q (row_lt h.r2 q hq)), row_keep h.r3 (fun q hq => l.block q (row_lt h.r3 q hq)), h.len, fun k hk => ⟨cl (h.ca k hk).1, (h.ca k hk).2⟩, fun k hk => ⟨cl (h.cs k hk).1, (h.cs k hk).2⟩⟩

section
variable (p a h r : Nat) (g : Nat → Nat) (c : Cfg) (x : Tps) (sw : Bool) (ws : Nat → Int)

set_option maxHeartbeats 16000000 in
theorem old_core (n ca cs : Nat) (S : Int) (L : List Int) (base : Nat) (ks : List Wlk) (v2 v3 : Value) (hk : ks[n]? = some ⟨ca, cs, S⟩) (hlen : L.length < 1000000) (hat : ∀ y, y ∈ L → At c x ws y)
    (hrw : ∀ w1, Ra w1 r g c x sw ws → Calls Tryz.prog 83 #[.pointer (some ⟨r, 0, none⟩), .int .i64 S] w1 fun e w' => ∃ v z, e = .returned (.tuple #[v, .int .i64 z]) ∧ w'.ownsRow w1.heap.size 3 1 v L.length (L.map (Value.int .i64)) ∧ Below w1.heap.size w1 w')
    (hwt : ∀ w1 tb, It w1 a h ca cs c x sw ws S → Off [tb] a h ca cs → Tk w1 tb 56 6 0 (tkf ((L.length : Int) + 1)) 0 ((L.length : Int) + 1) [] [] nilS nilS false → Calls Tryz.prog 85 #[.func (.func 52) #[.pointer (some ⟨tb, 0, none⟩)] #[], .pointer (some ⟨ca, 0, none⟩), .pointer (some ⟨cs, 0, none⟩)] w1 fun rr w' => rr = .returned (.tuple #[]) ∧ ∃ f va vh, Tk w' tb 56 6 0 f 0 ((L.length : Int) + 1) L (hcl c ws L) va vh false ∧ Touch [tb] w1 w')
    (w : World) (hB : Bo w p a h r g c x sw ws) (hK : Kept w p a r base ks v2 v3) :
    Calls Tryz.prog 42 #[.pointer (some ⟨p, 0, none⟩), .int .i64 n] w fun e w' => e = .returned (.bool true) ∧ Below w.heap.size w w' := by
  have hnl : n < ks.length := (List.getElem?_eq_some_iff.1 hk).1
  have hni : (n : Int) < (ks.length : Int) := by omega
  have hkl := hK.len
  obtain ⟨s3, cap3, rfl⟩ := own_sl hK.r3
  obtain ⟨s2, cap2, rfl⟩ := own_sl hK.r2
  obtain ⟨q3, rfl⟩ : ∃ q, s3 = some ⟨q, 0, none⟩ := by
    rcases id hK.r3.2 with ⟨h0, h1⟩ | ⟨q, cap, cur, h0, _⟩
    · omega
    · simp only [Value.slice.injEq] at h0
      exact ⟨q, h0.1⟩
  obtain ⟨q2, rfl⟩ : ∃ q, s2 = some ⟨q, 0, none⟩ := by
    rcases id hK.r2.2 with ⟨h0, h1⟩ | ⟨q, cap, cur, h0, _⟩
    · omega
    · simp only [Value.slice.injEq] at h0
      exact ⟨q, h0.1⟩
  have e3 : w.cell? ⟨q3, n, none⟩ = some (.int .i64 S) := by rw [hK.r3.cellAt _ (by omega)]; simp [hk]
  have HE2 : Hid (w.cell? ⟨q2, n, none⟩ = some (itv ca cs)) := by show _ = _; rw [hK.r2.cellAt _ (by omega)]; simp [hk]
  have hmem := List.mem_of_getElem? hk
  have HCA : Hid (w.cell? ⟨ca, 0, none⟩ = some (.pointer (some ⟨a, 0, none⟩))) := (hK.ca _ hmem).1
  have HCS : Hid (w.cell? ⟨cs, 0, none⟩ = some (.int .i64 S)) := (hK.cs _ hmem).1
  have c1 := hB.c1
  have c3 := hK.c3
  have HC2 : Hid (w.cell? ⟨p, 2, none⟩ = some (.slice (some ⟨q2, 0, none⟩) ks.length cap2)) := hK.c2
  have HB : Hid (Bo w p a h r g c x sw ws) := hB
  have Hat : Hid (∀ y, y ∈ L → At c x ws y) := hat
  have HRW : Hid (∀ w1, Ra w1 r g c x sw ws → Calls Tryz.prog 83 #[.pointer (some ⟨r, 0, none⟩), .int .i64 S] w1 fun e w' => ∃ v z, e = .returned (.tuple #[v, .int .i64 z]) ∧ w'.ownsRow w1.heap.size 3 1 v L.length (L.map (Value.int .i64)) ∧ Below w1.heap.size w1 w') := hrw
  have HWT : Hid (∀ w1 tb, It w1 a h ca cs c x sw ws S → Off [tb] a h ca cs → Tk w1 tb 56 6 0 (tkf ((L.length : Int) + 1)) 0 ((L.length : Int) + 1) [] [] nilS nilS false → Calls Tryz.prog 85 #[.func (.func 52) #[.pointer (some ⟨tb, 0, none⟩)] #[], .pointer (some ⟨ca, 0, none⟩), .pointer (some ⟨cs, 0, none⟩)] w1 fun rr w' => rr = .returned (.tuple #[]) ∧ ∃ f va vh, Tk w' tb 56 6 0 f 0 ((L.length : Int) + 1) L (hcl c ws L) va vh false ∧ Touch [tb] w1 w') := hwt
  clear hB hat hrw hwt hK hk hmem
  have bd : Below w.heap.size w w.drew := below_drewN (Below.refl _ _) 1
  go_enter Tryz.func42, Tryz.ntmps42
  go_upto_region 1 with fail
  go_cut [5] from 11 to 25 (fun v5 wq => ∃ va vc, v5 = .slice va L.length vc ∧ Hid (wq.ownsRow w.heap.size 3 1 (.slice va L.length vc) L.length (L.map (Value.int .i64))) ∧ Hid (Below w.heap.size w wq))
  case first =>
    go_region_with (go_at_call 83; refine (HRW.out _ (HB.out.below bd).ra).mono ?_; rintro e w1 ⟨v, z, rfl, hrow, l1⟩; obtain ⟨va, vc, hve⟩ := own_sl hrow; subst hve)
    all_goals (go_wp2_with fail; go_meet; exact ⟨va, vc, rfl, hrow, bd.trans (l1.mono bd.size)⟩)
  case rest =>
  obtain ⟨va, vc, rfl, Hw, L1⟩ := hcut
  clear c1 c3 e3 bd HRW
  have k0 := Tk.new wc ((L.length : Int) + 1)
  have b0 : Below wc.heap.size wc (wc.alloc (.cells (tkc ((L.length : Int) + 1)) 56)) := Below.alloc (Below.refl _ _) (Nat.le_refl _) _
  have L2 : Hid (Below w.heap.size w (wc.alloc (.cells (tkc ((L.length : Int) + 1)) 56))) := L1.out.trans (b0.mono L1.out.size)
  have hwl : w.heap.size ≤ wc.heap.size := L1.out.size
  go_upto_region 3 with fail
  have Hw2 : Hid ((wc.alloc (.cells (tkc ((L.length : Int) + 1)) 56)).ownsRow w.heap.size 3 1 (.slice va L.length vc) L.length (L.map (Value.int .i64))) := row_keep Hw.out (fun q hq => b0.block q (row_lt Hw.out q hq))
  have hrl := row_lt Hw.out
  obtain ⟨tb, htb⟩ : ∃ tb, tb = wc.heap.size := ⟨_, rfl⟩
  rw [← htb] at k0 hwl hrl ⊢
  clear htb b0 Hw L1
  generalize wc.alloc (.cells (tkc ((L.length : Int) + 1)) 56) = v4 at *
  have cl : ∀ {q : Addr} {u : Value}, w.cell? q = some u → v4.cell? q = some u := fun hq => (L2.out.cell (World.block_lt_of_cell? _ _ hq)).trans hq
  have e2 := cl HE2.out
  have c2 := cl HC2.out
  have lca : ca < w.heap.size := World.block_lt_of_cell? _ _ HCA.out
  have lcs : cs < w.heap.size := World.block_lt_of_cell? _ _ HCS.out
  have hB4 := HB.out.below L2.out
  have la := HB.out.ar.own.lt
  have lh := HB.out.ar.row.lt
  have l0 := HB.out.la.lt0
  have l1' := HB.out.la.lt1
  have hI : It v4 a h ca cs c x sw ws S := ⟨hB4.ar, hB4.la, cl HCA.out, cl HCS.out⟩
  have hO : Off [tb] a h ca cs := ⟨by simp; omega, by simp; omega, by simp; omega, by simp; omega, by simp; omega, by simp; omega⟩
  have hw2 := HWT.out v4 tb hI hO k0
  have HR : Hid (∀ q, (Value.slice va L.length vc).ownBlock = some q → q < tb) := hrl
  clear hI hO k0 HWT lca lcs hB4 la lh l0 l1' hrl
  go_wp2_with fail
  refine hw2.mono ?_
  rintro e w5 ⟨rfl, f, ta, th, k, t5⟩
  have l5 : Below w.heap.size w w5 := L2.out.trans (t5.below L2.out.size (fun q hq => by simp at hq; omega))
  have HC : Hid (Cmp c ws w5 L va vc tb) := Cmp.of (row_keep Hw2.out (fun q hq => t5.block q (row_lt Hw2.out q hq) (by simp; have := HR.out q hq; omega))) k
  have HB2 : Hid (Bo w5 p a h r g c x sw ws) := HB.out.below l5
  have L5 : Hid (Below w.heap.size w w5) := l5
  obtain ⟨a1, cc1, u1, -⟩ := HC.out.t0
  have u5 : w5.cell? ⟨tb, 5, none⟩ = some (.bool false) := by rw [k.row.cell (i := 5) (by decide)]; exact congrArg some k.f5
  have BS : Hid (Below w5.heap.size w5 w5) := Below.refl _ _
  clear hw2 k t5 l5 e2 c2 cl L2 Hw2 HE2 HCA HCS HC2 HB HR
  go_upto_region 4 with fail
  go_wp2
  clear u1 u5
  go_loopw [8] (fun v wr => ∃ i : Nat, i ≤ L.length ∧ v = .int .i64 i ∧ Hid (Below w5.heap.size w5 wr)) (fun v _ => L.length - (intOf v).toNat)
  case atStart => exact ⟨0, Nat.zero_le _, rfl, BS.out⟩
  case round =>
    obtain ⟨i, hi, rfl, bl⟩ := hrel
    by_cases hlt : i < L.length
    · obtain ⟨y, hy⟩ : ∃ y, L[i]? = some y := ⟨_, List.getElem?_eq_getElem hlt⟩
      have hli : (i : Int) < (L.length : Int) := by omega
      have hBr := HB2.out.below bl.out
      have kc := HC.out.below bl.out
      obtain ⟨q1, rfl, d1⟩ := kc.li i y hy
      obtain ⟨a1, cc1, u1, x1⟩ := kc.t0
      obtain ⟨q2, rfl, x2⟩ := x1 i y hy
      obtain ⟨q3, m3, u3, x3⟩ := kc.t1 i y hy
      have c1 := hBr.c1
      have hym : At c x ws y := Hat.out y (List.mem_of_getElem? hy)
      have hrh : ∀ w1, Bo w1 p a h r g c x sw ws → Calls Tryz.prog 30 #[.pointer (some ⟨r, 0, none⟩), .int .i64 y] w1 fun e w' => e = .returned (.tuple #[hdv c ws y, .bool true]) ∧ Below w1.heap.size w1 w' := fun w1 hw => rhead_at r g c x sw ws y hym (hw.ar.wat_wd _) w1 hw.ra
      simp only [hdv] at hrh
      clear kc x1 hym hy
      generalize wat c ws (y + 1) = sr, kdOf (wat c ws y) = K, ptOf (wat c ws y) = P, rwOf (wat c ws y) = R, agOf (wat c ws y) = A, stOf (wat c ws y) = T, hdOf (wat c ws y) = H at x3 hrh
      have n0 : wr.cell? ⟨q3, i * 7, none⟩ = some (.int .u64 sr) := x3 0 (by decide)
      have n1 : wr.cell? ⟨q3, i * 7 + 1, none⟩ = some (.int .i64 K) := x3 1 (by decide)
      have n2 : wr.cell? ⟨q3, i * 7 + 2, none⟩ = some (.int .i64 P) := x3 2 (by decide)
      have n3 : wr.cell? ⟨q3, i * 7 + 3, none⟩ = some (.int .i64 R) := x3 3 (by decide)
      have n4 : wr.cell? ⟨q3, i * 7 + 4, none⟩ = some (.int .i64 A) := x3 4 (by decide)
      have n5 : wr.cell? ⟨q3, i * 7 + 5, none⟩ = some (.int .i64 T) := x3 5 (by decide)
      have n6 : wr.cell? ⟨q3, i * 7 + 6, none⟩ = some (.bool H) := x3 6 (by decide)
      have HN : Hid ((wr.cell? ⟨q1, i, none⟩ = some (.int .i64 y) ∧ wr.cell? ⟨tb, 0, none⟩ = some (.slice (some ⟨q2, 0, none⟩) L.length cc1) ∧ wr.cell? ⟨q2, i, none⟩ = some (.int .i64 y) ∧ wr.cell? ⟨tb, 1, none⟩ = some (.slice (some ⟨q3, 0, none⟩) L.length m3)) ∧ wr.cell? ⟨q3, i * 7, none⟩ = some (.int .u64 sr) ∧ wr.cell? ⟨q3, i * 7 + 1, none⟩ = some (.int .i64 K) ∧ wr.cell? ⟨q3, i * 7 + 2, none⟩ = some (.int .i64 P) ∧ wr.cell? ⟨q3, i * 7 + 3, none⟩ = some (.int .i64 R) ∧ wr.cell? ⟨q3, i * 7 + 4, none⟩ = some (.int .i64 A) ∧ wr.cell? ⟨q3, i * 7 + 5, none⟩ = some (.int .i64 T) ∧ wr.cell? ⟨q3, i * 7 + 6, none⟩ = some (.bool H)) := ⟨⟨d1, u1, x2, u3⟩, n0, n1, n2, n3, n4, n5, n6⟩
      have H2 : Hid (∀ w1, Bo w1 p a h r g c x sw ws → Calls Tryz.prog 30 #[.pointer (some ⟨r, 0, none⟩), .int .i64 y] w1 fun e w' => e = .returned (.tuple #[hv sr K P R A T H, .bool true]) ∧ Below w1.heap.size w1 w') := hrh
      have HBr : Hid (Bo wr p a h r g c x sw ws) := hBr
      clear n0 n1 n2 n3 n4 n5 n6 u1 x2 u3 x3 hrh hBr
      have d1a : (wr.alloc (.cells #[.int .u64 0, .int .i64 0, .int .i64 0, .int .i64 0, .int .i64 0, .int .i64 0, .bool false] 31)).cell? ⟨q1, i, none⟩ = some (.int .i64 y) := Lib.cell?_alloc_some _ d1
      have c1a : (wr.alloc (.cells #[.int .u64 0, .int .i64 0, .int .i64 0, .int .i64 0, .int .i64 0, .int .i64 0, .bool false] 31)).cell? ⟨p, 1, none⟩ = some (.pointer (some ⟨r, 0, none⟩)) := Lib.cell?_alloc_some _ c1
      have bd : Below wr.heap.size wr wr.drew := below_drewN (Below.refl _ _) 1
      have bd1 : ∀ o', Below wr.heap.size wr (wr.alloc o').drew := fun o' => below_drewN (Below.alloc (Below.refl _ _) (Nat.le_refl _) o') 1
      go_upto_region 9 with fail
      go_cut [9, 10] from 61 to 72 (fun v12 v13 wq => ∃ X, v12 = .pointer (some ⟨X, 0, none⟩) ∧ v13 = .bool true ∧ Box wq X (.int .u64 sr) (.int .i64 K) (.int .i64 P) (.int .i64 R) (.int .i64 A) (.int .i64 T) (.bool H) ∧ Below wr.heap.size wr wq)
      case first =>
        go_region_with (go_at_call 30; refine (H2.out _ (by first | exact HBr.out.below bd | exact HBr.out.below (bd1 _))).mono ?_; rintro e w1 ⟨rfl, l1⟩; (first | (have lb : Below wr.heap.size wr w1 := bd.trans (l1.mono bd.size)) | (obtain ⟨hz, ⟨y0, y1, y2, y3, y4, y5, y6, f0, f1, f2, f3, f4, f5, f6⟩, lb⟩ := box_over l1)))
        all_goals (go_wp2_with fail; go_meet; first | (have q1 := seven_box (.int .u64 sr) (.int .i64 K) (.int .i64 P) (.int .i64 R) (.int .i64 A) (.int .i64 T) (.bool H) hz.out; have q2 := seven_below (.int .u64 sr) (.int .i64 K) (.int .i64 P) (.int .i64 R) (.int .i64 A) (.int .i64 T) (.bool H) lb (Nat.le_refl _); exact ⟨_, rfl, rfl, q1, q2⟩) | exact ⟨_, rfl, rfl, Box.new _ _ _ _ _ _ _ _ _, Below.alloc lb lb.size _⟩)
      case rest =>
      obtain ⟨X, rfl, rfl, hX, bb⟩ := hcut
      clear d1 d1a c1 c1a bd bd1 H2 HBr
      have cl : ∀ {q : Addr} {u : Value}, wr.cell? q = some u → wc.cell? q = some u := fun hq => (bb.cell (World.block_lt_of_cell? _ _ hq)).trans hq
      obtain ⟨⟨g1, g2, g3, g4⟩, g5, g6, g7, g8, g9, g10, g11⟩ := HN.out
      have d1 := cl g1
      have u1 := cl g2
      have x2 := cl g3
      have u3 := cl g4
      have n0 := cl g5
      have n1 := cl g6
      have n2 := cl g7
      have n3 := cl g8
      have n4 := cl g9
      have n5 := cl g10
      have n6 := cl g11
      clear g1 g2 g3 g4 g5 g6 g7 g8 g9 g10 g11 HN cl
      obtain ⟨o0, o1, o2, o3, o4, o5, o6, -, -, -, -, -, -, -⟩ := hX
      have BB : Hid (Below w5.heap.size w5 wc) := bl.out.trans (bb.mono bl.out.size)
      clear bb bl
      go_upto_region 10 with fail
      refine quiet_tail 21 mixed (by kernel_rfl) ?_
      simp only [List.take_succ_cons, List.take_zero, List.drop_succ_cons, List.drop_zero]
      repeat (go_big_quiet_step (fail))
      refine wpQuiet_nil ?_
      clear d1 u1 x2 u3 n0 n1 n2 n3 n4 n5 n6 o0 o1 o2 o3 o4 o5 o6
      go_wp2_with fail
      refine (sameHead_same sr K P R A T H _).mono ?_
      rintro e w7 ⟨rfl, b7⟩
      have b8 : Hid (Below w5.heap.size w5 w7) := BB.out.trans ((Below.trans (below_drewN (Below.refl _ wc) 1) b7).mono BB.out.size)
      clear b7 BB
      go_wp2
      go_roundw
      case rel => exact ⟨i + 1, hlt, by go_num, b8⟩
      case measure => simp [intOf]; omega
    · obtain rfl : i = L.length := by omega
      go_wp2
      go_ret
      exact ⟨rfl, L5.out.trans (bl.out.mono L5.out.size)⟩

theorem old_any (n base : Nat) (ks : List Wlk) (v2 v3 : Value) (hn : n < ks.length) (w : World) (hB : Bo w p a h r g c x sw ws) (hK : Kept w p a r base ks v2 v3) :
    Calls Tryz.prog 42 #[.pointer (some ⟨p, 0, none⟩), .int .i64 n] w fun e w' => e = .returned (.bool true) ∧ Below w.heap.size w w' := by
  obtain ⟨k, hk⟩ : ∃ k, ks[n]? = some k := ⟨_, List.getElem?_eq_getElem hn⟩
  obtain ⟨ca, cs, S⟩ := k
  obtain ⟨l, ⟨⟨q, e, hp, hw⟩, hlen, hat⟩, hrw⟩ := gone_ex p a h r g c x sw ws S w hB
  refine old_core p a h r g c x sw ws n ca cs S l base ks v2 v3 hk hlen hat hrw (fun w1 tb hI hO hT => ?_) w hB hK
  refine (walk_taker a h ca cs c x sw ws S l q e hp hw w1 hI tb 56 6 0 _ _ (by omega) hlen hT hO).mono ?_
  rintro rr w' ⟨rfl, f, va, vh, k1, -, t1, -⟩
  exact ⟨rfl, f, va, vh, k1, t1⟩
end

end Go.Proofs.YtbdkcelggffneaaGreatDoor
