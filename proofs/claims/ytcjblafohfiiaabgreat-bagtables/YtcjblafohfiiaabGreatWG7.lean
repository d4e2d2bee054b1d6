/-
  A table gone through twice.
-/
import Derived.Test.YtcjblafohfiiaabGreatWG6
import Derived.Test.YtcjblafohfiiaabGreatWA
set_option linter.unusedVariables false
set_option maxRecDepth 20000
namespace Go.Proofs.YtcjblafohfiiaabGreat.Wd
open Go.RowKit Go.Shelf

/-- One walk by the closure. -/
theorem walk_all (okB nB wB kB dB iB sB d i br bt base kb Bl : Nat) (kv : Value) (ks kr : List Int) (vs vr : List Int) (stop : Int) (Ft Fr : List Nat) (W : World) (h : Sv okB nB wB kB dB iB sB d i br base kb kv ks kr vr (cutTo ks.length stop) stop Fr 0 W) (ht : ITab W base bt ks vs Ft) (hbl : W.cell? ⟨Bl, 0, none⟩ = some (.pointer (some ⟨bt, 0, none⟩))) (hsm : Same ks vs kr vr) (hi : i < 2) (hlen : ks.length < 1000000) :
    Calls Tryz.prog 116 #[.func (.func 95) #[] #[.pointer (some ⟨okB, 0, none⟩), .pointer (some ⟨nB, 0, none⟩), .pointer (some ⟨wB, 0, none⟩), .pointer (some ⟨kB, 0, none⟩), .pointer (some ⟨dB, 0, none⟩), .pointer (some ⟨iB, 0, none⟩), .pointer (some ⟨sB, 0, none⟩)], .pointer (some ⟨Bl, 0, none⟩)] W fun e W' => (∃ r, e = .returned r) ∧
      Sv okB nB wB kB dB iB sB d i br base kb kv ks kr vr (cutTo ks.length stop) stop Fr (cutTo ks.length stop) W' ∧ Touch [okB, nB] W W' := by
  have ho := h.ok.lt
  have hn := h.n.lt
  have hlr : kr.length < 1000000 := by rw [hsm.len]; exact hlen
  refine (tab_walked ht hbl hlen 95 _ (fun g q j W2 => W.heap.size ≤ g ∧ g < W2.heap.size ∧ W.heap.size ≤ q ∧ q < W2.heap.size ∧ ¬ (1 ≤ stop ∧ stop ≤ j) ∧ Touch [okB, nB] W W2 ∧ Sv okB nB wB kB dB iB sB d i br base kb kv ks kr vr (cutTo ks.length stop) stop Fr j W2)
    (fun g q j W2 => (j : Int) = stop ∧ 1 ≤ stop ∧ Touch [okB, nB] W W2 ∧ Sv okB nB wB kB dB iB sB d i br base kb kv ks kr vr (cutTo ks.length stop) stop Fr j W2) (enters_of Tryz.func95 (by kernel_rfl) rfl) ?_ ?_).mono ?_
  · intro g q W1 hB1 hg hg1 hq hq1
    have hT : Touch [okB, nB] W W1 := Touch.of_below hB1 _
    exact ⟨hg, hg1, hq, hq1, by simp; omega, hT, h.turn hT ((hB1.block _ ho).trans h.ok) ((hB1.block _ hn).trans h.n)⟩
  · rintro g q j k x W2 ⟨hg, hg2, hq, hq2, hns, hT, hI⟩ hk hx
    have hjl : j < ks.length := (List.getElem?_eq_some_iff.1 hk).1
    have hjw : j < cutTo ks.length stop := by unfold cutTo; split <;> omega
    obtain ⟨j', hj', hv'⟩ := (hsm.iff k x).2 ⟨j, hk, hx⟩
    have hget : ∀ W1, Rf W1 base br kr vr Fr → Calls Tryz.prog 57 #[.pointer (some ⟨br, 0, none⟩), .int .i64 k] W1 fun e w' => e = .returned (.tuple #[.int .u64 x, .bool true]) ∧ w' = W1 := fun W1 hr1 => rget_yes br base j' k x kr vr Fr W1 hr1 hlr hsm.d2 hj' hv'
    have hgk : ∀ b, W.heap.size ≤ b → b ∉ [okB, nB] := fun b hb hm => by simp at hm; omega
    by_cases hs : (j : Int) + 1 = stop
    · refine (all1_core okB nB wB kB dB iB sB d i br base kb kv ks kr vr _ stop Fr j W2 hI k x hk hi hjw hlen hget false (by simpa using hs)).mono ?_
      rintro e W3 ⟨rfl, hI3, hT3⟩
      exact ⟨hT3.block g hg2 (hgk g hg), hT3.block q hq2 (hgk q hq), .inr ⟨rfl, by omega, by omega, hT.trans hT3, hI3⟩⟩
    · refine (all1_core okB nB wB kB dB iB sB d i br base kb kv ks kr vr _ stop Fr j W2 hI k x hk hi hjw hlen hget true (by simpa using hs)).mono ?_
      rintro e W3 ⟨rfl, hI3, hT3⟩
      exact ⟨hT3.block g hg2 (hgk g hg), hT3.block q hq2 (hgk q hq), .inl ⟨rfl, hg, Nat.lt_of_lt_of_le hg2 hT3.size, hq, Nat.lt_of_lt_of_le hq2 hT3.size, by omega, hT.trans hT3, hI3⟩⟩
  · rintro e W' ⟨hr, g, q, ⟨-, -, -, -, hns, hT, hI⟩ | ⟨j, hj, hjs, h1, hT, hI⟩⟩
    · have hc : cutTo ks.length stop = ks.length := by unfold cutTo; rw [if_neg (by omega)]
      rw [hc] at hI ⊢
      exact ⟨hr, hI, hT⟩
    · have hc : cutTo ks.length stop = j := by unfold cutTo; split <;> omega
      rw [hc] at hI ⊢
      exact ⟨hr, hI, hT⟩

theorem key_box {v w1 : World} {z : Value} {t : TypeId} (l : Touch [] (v.alloc (.cells #[z] t)).drew w1) : Hid (Boxed w1 v.heap.size t z) ∧ Below v.heap.size v w1 := by
  have b0 : Touch [] v (v.alloc (.cells #[z] t)).drew := (Touch.alloc _ _ _).trans (Touch.drew _ _)
  have x0 := Boxed.new v t z
  have hlt : v.heap.size < (v.alloc (.cells #[z] t)).drew.heap.size := by show v.heap.size < (v.alloc (.cells #[z] t)).heap.size; simp
  exact ⟨(l.block v.heap.size hlt (by simp)).trans x0, (b0.trans l).below (Nat.le_refl _) (by simp)⟩

set_option maxHeartbeats 8000000 in
theorem all_any (d i bt br base : Nat) (ks : List Int) (vs : List Int) (kr : List Int) (vr : List Int) (F : List Nat) (stop : Int) (w : World) (hi : i < 2) (hp : PW w base bt br ks vs kr vr F) (hlen : ks.length < 1000000)
    (hc : w.cell? ⟨d, 6 + i, none⟩ = some (.pointer (some ⟨bt, 0, none⟩))) (hcr : w.cell? ⟨d, 16 + i, none⟩ = some (.pointer (some ⟨br, 0, none⟩))) :
    Calls Tryz.prog 63 #[.pointer (some ⟨d, 0, none⟩), .int .i64 stop, .int .i64 i] w fun e w' => e = .returned (.bool true) ∧ Touch [] w w' := by
  obtain ⟨Ft, Fr, hs, hn, hsm, hap, rfl⟩ := hp
  have hi' : (i : Int) < 2 := by omega
  have hdl : d < w.heap.size := World.block_lt_of_cell? _ _ hc
  have hsrt := tab_srt hs
  have hlr : kr.length < 1000000 := by rw [hsm.len]; exact hlen
  have hnf : ∀ (Bl : Nat) (W : World), (binOp BinOp.eql 141 (.func (.func 116) #[] #[.pointer (some ⟨Bl, 0, none⟩)]) .nilFunc).run Tryz.prog W = .ok (.bool false) W := seq_not_nil
  have b1 := Boxed.new w 26 (.pointer (some ⟨d, 0, none⟩))
  have b2 := Boxed.new (w.alloc (.cells #[.pointer (some ⟨d, 0, none⟩)] 26)) 3 (.int .i64 stop)
  have b3 := Boxed.new ((w.alloc (.cells #[.pointer (some ⟨d, 0, none⟩)] 26)).alloc (.cells #[.int .i64 stop] 3)) 3 (.int .i64 i)
  simp only [World.size_alloc] at b2 b3
  have c1 := (b1.alloc (.cells #[.int .i64 stop] 3)).alloc (.cells #[.int .i64 i] 3)
  have c2 := b2.alloc (.cells #[.int .i64 i] 3)
  have ta : Touch [] w (((w.alloc (.cells #[.pointer (some ⟨d, 0, none⟩)] 26)).alloc (.cells #[.int .i64 stop] 3)).alloc (.cells #[.int .i64 i] 3)) := ((Touch.alloc _ _ _).trans (Touch.alloc _ _ _)).trans (Touch.alloc _ _ _)
  have hza : (((w.alloc (.cells #[.pointer (some ⟨d, 0, none⟩)] 26)).alloc (.cells #[.int .i64 stop] 3)).alloc (.cells #[.int .i64 i] 3)).heap.size = w.heap.size + 3 := by simp
  have Hs : Hid (∀ W, Touch [] w W → ITab W base bt ks vs Ft) := fun W hT => hs.keep hT (by intro k _ h; simp at h)
  have Hn : Hid (∀ W, Touch [] w W → Rf W base br kr vr Fr) := fun W hT => hn.keep hT (by intro k _ h; simp at h)
  have Hc : Hid (∀ W, Touch [] w W → W.cell? ⟨d, 6 + i, none⟩ = some (.pointer (some ⟨bt, 0, none⟩)) ∧ W.cell? ⟨d, 16 + i, none⟩ = some (.pointer (some ⟨br, 0, none⟩))) := fun W hT => ⟨(World.cell?_of_block (w := w) (hT.block d hdl (by simp))).trans hc, (World.cell?_of_block (w := w) (hT.block d hdl (by simp))).trans hcr⟩
  have Hfr : Hid (∀ k, k ∈ Fr → k < w.heap.size) := fun k hk => (hn.mem k hk).2
  have Hsm : Hid (Same ks vs kr vr) := hsm
  clear hs hn hc hcr hap hsm b1 b2
  go_enter Tryz.func63, Tryz.ntmps63
  go_upto_region 1 with fail
  generalize ((w.alloc (.cells #[.pointer (some ⟨d, 0, none⟩)] 26)).alloc (.cells #[.int .i64 stop] 3)).alloc (.cells #[.int .i64 i] 3) = v at b3 c1 c2 ta hza ⊢
  have Hza : Hid (v.heap.size = w.heap.size + 3) := hza
  clear hza
  have k1 := c1.cell
  have k3 := b3.cell
  have k4 := (Hc.out v ta).1
  go_cut [7] from 13 to 19 (fun v7 wq => ∃ Bl, v7 = .func (.func 116) #[] #[.pointer (some ⟨Bl, 0, none⟩)] ∧ Boxed wq Bl 39 (.pointer (some ⟨bt, 0, none⟩)) ∧ Touch [] v wq)
  case first =>
    go_region_with (go_at_call 93; refine (tall_any _ _).mono ?_; rintro e w' ⟨rfl, rfl⟩)
    all_goals (go_wp2_with fail; go_meet; first | exact ⟨_, rfl, Boxed.new v.drew _ _, (Touch.drew _ _).trans (Touch.alloc _ _ _)⟩ | exact ⟨_, rfl, Boxed.new v _ _, (Touch.alloc _ _ _).trans (Touch.drew _ _)⟩)
  case rest =>
  obtain ⟨Bl, rfl, hbl, hT1⟩ := hcut
  have bt1 : ∀ {B t u}, Boxed v B t u → Boxed wc B t u := fun h => box_touch h hT1 (by simp)
  have e1 := bt1 c1
  have e2 := bt1 c2
  have e3 := bt1 b3
  have ta1 : Touch [] w wc := ta.trans hT1
  have hzb : w.heap.size + 3 ≤ wc.heap.size := by have := hT1.size; have := Hza.out; omega
  clear bt1 c1 c2 b3 k1 k3 k4 hT1 ta Hza
  obtain ⟨v2, hv2⟩ : ∃ v2, v2 = wc := ⟨_, rfl⟩
  rw [← hv2] at e1 e2 e3 ta1 hzb hbl ⊢
  clear hv2
  clear wc
  go_upto_region 4 with fail
  have k1 := e1.cell
  have k3 := e3.cell
  have k4 := (Hc.out v2 ta1).2
  have k1a : (v2.alloc (.cells #[.slice none 0 0] 68)).cell? ⟨w.heap.size, 0, none⟩ = some (.pointer (some ⟨d, 0, none⟩)) := Lib.cell?_alloc_some _ k1
  have k3a : (v2.alloc (.cells #[.slice none 0 0] 68)).cell? ⟨w.heap.size + 1 + 1, 0, none⟩ = some (.int .i64 i) := Lib.cell?_alloc_some _ k3
  have k4a : (v2.alloc (.cells #[.slice none 0 0] 68)).cell? ⟨d, 16 + i, none⟩ = some (.pointer (some ⟨br, 0, none⟩)) := Lib.cell?_alloc_some _ k4
  have hky : ∀ W, Touch [] w W → Calls Tryz.prog 94 #[.pointer (some ⟨br, 0, none⟩)] W fun e w' => ∃ u, e = .returned u ∧ w'.ownsRow W.heap.size 3 1 u ks.length (ints ks) ∧ Touch [] W w' := fun W hT => rkeys_any br base ks vs kr vr Fr W (Hn.out W hT) Hsm.out hsrt hlr
  have td : Touch [] w v2.drew := ta1.trans (Touch.drew _ _)
  have td1 : ∀ o', Touch [] w (v2.alloc o').drew := fun o' => (ta1.trans (Touch.alloc _ _ _)).trans (Touch.drew _ _)
  go_cut [8] from 22 to 28 (fun v8 wq => ∃ kB kv, v8 = .pointer (some ⟨kB, 0, none⟩) ∧ Boxed wq kB 68 kv ∧ wq.ownsRow v2.heap.size 3 1 kv ks.length (ints ks) ∧ Below v2.heap.size v2 wq)
  case first =>
    go_region_with (go_at_call 94; refine (hky _ (by first | exact td | exact td1 _)).mono ?_; rintro e w1 ⟨u, rfl, hru, l1⟩; have hru2 := row_base hru (base' := v2.heap.size) (by first | exact Nat.le_refl _ | simp); clear hru; obtain ⟨ka, kc, hke, -⟩ := row_sl hru2; subst hke; (first | (have lb : Below v2.heap.size v2 w1 := ((Touch.drew _ _).trans l1).below (Nat.le_refl _) (by simp)) | (obtain ⟨hz, lb⟩ := key_box l1; have y0 := hz.out.cell; have f0 := hz.out.frozen)))
    all_goals (go_wp2_with fail; go_meet; first | exact ⟨_, _, rfl, hz.out.set _, ownsRow_setOther hru2 (hz.out.not_row (by decide) hru2) _, lb.setCell (Nat.le_refl _) _⟩ | exact ⟨_, _, rfl, Boxed.new w1 _ _, hru2.alloc _, lb.alloc lb.size _⟩)
  case rest =>
  obtain ⟨kB, kv, rfl, hkb, hrow, hB2⟩ := hcut
  have bt1 : ∀ {B t u}, Boxed v2 B t u → Boxed wc B t u := fun h => (hB2.block _ h.lt).trans h
  have g1 := bt1 e1
  have g2 := bt1 e2
  have g3 := bt1 e3
  have g4 := bt1 hbl
  have tb2 : Touch [] w wc := ta1.trans (Touch.of_below hB2 [])
  have hzc : w.heap.size + 3 ≤ wc.heap.size := by have := hB2.size; omega
  clear bt1 e1 e2 e3 hbl ta1 k1 k3 k4 k1a k3a k4a hky td td1 hnf
  obtain ⟨v3, hv3⟩ : ∃ v3, v3 = wc := ⟨_, rfl⟩
  rw [← hv3] at g1 g2 g3 g4 hkb hrow tb2 hzc ⊢
  clear hv3 hB2
  clear wc
  obtain ⟨ka, kc, hkv, -⟩ := row_sl hrow
  have m1 := hkb.cell
  rw [hkv] at m1
  have m2 := g2.cell
  go_upto_region 5 with fail
  go_wp2_with fail
  refine (upTo_any ks.length stop _).mono ?_
  rintro e w' ⟨rfl, rfl⟩
  clear m1 m2
  go_upto_region 6 with fail
  have n1 := g1.alloc (.cells #[.int .i64 (cutTo ks.length stop : Nat)] 3)
  have n2 := g2.alloc (.cells #[.int .i64 (cutTo ks.length stop : Nat)] 3)
  have n3 := g3.alloc (.cells #[.int .i64 (cutTo ks.length stop : Nat)] 3)
  have n4 := g4.alloc (.cells #[.int .i64 (cutTo ks.length stop : Nat)] 3)
  have n5 := hkb.alloc (.cells #[.int .i64 (cutTo ks.length stop : Nat)] 3)
  have n6 := Boxed.new v3 3 (.int .i64 (cutTo ks.length stop : Nat))
  have n7 := hrow.alloc (.cells #[.int .i64 (cutTo ks.length stop : Nat)] 3)
  have n8 : Touch [] w (v3.alloc (.cells #[.int .i64 (cutTo ks.length stop : Nat)] 3)) := tb2.trans (Touch.alloc _ _ _)
  have hwB : w.heap.size + 3 ≤ v3.heap.size := hzc
  generalize v3.heap.size = wB at n6 hwB ⊢
  generalize v3.alloc (.cells #[.int .i64 (cutTo ks.length stop : Nat)] 3) = v4 at n1 n2 n3 n4 n5 n6 n7 n8 ⊢
  clear g1 g2 g3 g4 hkb hrow tb2 hzc
  have Hlo : Hid (∀ wr, Below v4.heap.size v4 wr → ∀ W5, W5 = (wr.alloc (.cells #[.int .i64 0] 3)).alloc (.cells #[.bool true] 4) →
      Calls Tryz.prog 116 #[.func (.func 95) #[] #[.pointer (some ⟨wr.heap.size + 1, 0, none⟩), .pointer (some ⟨wr.heap.size, 0, none⟩), .pointer (some ⟨wB, 0, none⟩), .pointer (some ⟨kB, 0, none⟩), .pointer (some ⟨w.heap.size, 0, none⟩), .pointer (some ⟨w.heap.size + 1 + 1, 0, none⟩), .pointer (some ⟨w.heap.size + 1, 0, none⟩)], .pointer (some ⟨Bl, 0, none⟩)] W5 fun e W' => (∃ r, e = .returned r) ∧
        Boxed W' (wr.heap.size + 1) 4 (.bool true) ∧ Boxed W' wr.heap.size 3 (.int .i64 (cutTo ks.length stop : Nat)) ∧ Boxed W' wB 3 (.int .i64 (cutTo ks.length stop : Nat)) ∧ Below v4.heap.size v4 W') := by
    intro wr hwr W5 hW5
    have x1 := (Boxed.new wr 3 (.int .i64 ((0 : Nat) : Int))).alloc (.cells #[.bool true] 4)
    have x2 := Boxed.new (wr.alloc (.cells #[.int .i64 ((0 : Nat) : Int)] 3)) 4 (.bool true)
    simp only [World.size_alloc] at x2
    have hz4 : v4.heap.size ≤ wr.heap.size := hwr.size
    have hB5 : Below v4.heap.size v4 W5 := by
      rw [hW5]
      exact (hwr.alloc hwr.size _).alloc (by simp; omega) _
    have hW5' : W5 = (wr.alloc (.cells #[.int .i64 ((0 : Nat) : Int)] 3)).alloc (.cells #[.bool true] 4) := hW5
    rw [← hW5'] at x1 x2
    have bb : ∀ {B t u}, Boxed v4 B t u → Boxed W5 B t u := fun h => (hB5.block _ h.lt).trans h
    have tT : Touch [] w W5 := n8.trans (Touch.of_below hB5 [])
    have hrow5 : W5.ownsRow v2.heap.size 3 1 kv ks.length (ints ks) := row_keep n7 (Touch.of_below hB5 []) (by simp)
    have hkl : ∀ q, kv.ownBlock = some q → q < v4.heap.size := fun q hq => (n7.lt q hq).2
    have l1 := n1.lt
    have l2 := n2.lt
    have l3 := n3.lt
    have l6 := n6.lt
    have hsv : Sv (wr.heap.size + 1) wr.heap.size wB kB w.heap.size (w.heap.size + 1 + 1) (w.heap.size + 1) d i br base v2.heap.size kv ks kr vr (cutTo ks.length stop) stop Fr 0 W5 :=
      ⟨x2, x1, bb n6, bb n5, bb n1, bb n3, bb n2, hrow5, Hn.out W5 tT, (Hc.out W5 tT).2, ⟨by omega, by omega, by omega⟩, ⟨fun e => by have := hkl _ e.symm; omega, fun e => by have := hkl _ e.symm; omega⟩, ⟨by omega, by omega⟩, ⟨fun hm => by have := Hfr.out _ hm; omega, fun hm => by have := Hfr.out _ hm; omega⟩⟩
    refine (walk_all _ _ _ _ _ _ _ d i br bt base _ Bl kv ks kr vs vr stop Ft Fr W5 hsv (Hs.out W5 tT) (bb n4).cell Hsm.out hi hlen).mono ?_
    rintro e W6 ⟨hr, hS, hT6⟩
    refine ⟨hr, hS.ok, hS.n, hS.wt, hB5.trans (hT6.below hB5.size (fun q hq => ?_))⟩
    simp at hq
    omega
  have Hn8 : Hid (Touch [] w v4) := n8
  clear n1 n2 n3 n4 n5 n6 n7 n8 Hs Hn Hc Hfr Hsm
  go_wp2
  go_loopw [10] (fun r wr => ∃ k : Nat, k ≤ 2 ∧ r = .int .i64 k ∧ Below v4.heap.size v4 wr) (fun r _ => 2 - (intOf r).toNat)
  case atStart => exact ⟨0, by omega, rfl, Below.refl _ _⟩
  case round =>
    obtain ⟨k, hk, rfl, hwr⟩ := hrel
    by_cases hlt : k < 2
    · have hki : (k : Int) < 2 := by omega
      have hcal := Hlo.out wr hwr _ rfl
      clear Hlo
      go_wp2_with fail
      refine hcal.mono ?_
      rintro e W6 ⟨⟨r, rfl⟩, q1, q2, q3, q4⟩
      clear hcal
      have p1 := q1.cell
      have p2 := q2.cell
      have p3 := q3.cell
      clear q1 q2 q3
      go_wp2
      go_roundw
      case rel => exact ⟨k + 1, hlt, by go_num, q4⟩
      case measure => simp [intOf]; omega
    · obtain rfl : k = 2 := by omega
      clear Hlo
      go_wp2
      go_ret
      exact ⟨rfl, Hn8.out.trans (Touch.of_below hwr [])⟩

end Go.Proofs.YtcjblafohfiiaabGreat.Wd
