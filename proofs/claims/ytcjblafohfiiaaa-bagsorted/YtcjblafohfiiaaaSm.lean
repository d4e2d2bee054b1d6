/-
  BagSorted: the walk.
-/
import Derived.Test.YtcjblafohfiiaaaSn
import Derived.Test.YtcjblafohfiiaaaZc
import Derived.Deep.CutRange
set_option linter.unusedVariables false
namespace Go.Proofs.Ytcjblafohfiiaaa
open Go.RowKit Go.Shelf

set_option maxRecDepth 100000 in
set_option maxHeartbeats 4000000 in
theorem sorted_core (a a' : Option Addr) (cap cap' : Nat) (l d : List Int) (ask : Int) (w : World) (v0 v1 : Value) (hfew : ∀ w, Calls Try.prog 8 #[v0] w fun e w' => e = .returned (.slice a l.length cap) ∧ w = w') (hfew' : ∀ w, Calls Try.prog 8 #[v1] w fun e w' => e = .returned (.slice a' d.length cap') ∧ w = w')
    (hl : Lists w a l) (hd : Lists w a' d) (hn : l.length ≤ 500) (hn' : d.length ≤ 500) :
    Calls Try.prog 4 #[v0, v1, .int .i64 ask] w fun e w' => e = .returned (.bool true) ∧ Below w.heap.size w w' := by
  have ba0 := Boxed.new w 3 (.int .i64 ask)
  have hBa : Below w.heap.size w (w.alloc (.cells #[.int .i64 ask] 3)) := (Below.refl _ w).alloc (Nat.le_refl _) _
  go_enter Try.func4, Try.ntmps4
  go_wp2_with fail
  refine (known_any _).mono ?_
  rintro e w1 ⟨rfl, hB1'⟩
  have ha1 := box_touch ba0 (Touch.of_below hB1' []) (by simp)
  have hB1 : Below w.heap.size w w1 := hBa.trans (hB1'.mono hBa.size)
  have z1 : w.heap.size < w1.heap.size := ha1.lt
  clear ba0 hBa hB1'
  go_wp2_with fail
  refine (newinttab_any _).mono ?_
  rintro e w2 ⟨rfl, hk2, ht2, hz2⟩
  have ha2 := (box_touch ha1 ht2 (by simp)).alloc (.cells #[.pointer (some ⟨w1.heap.size, 0, none⟩)] 38)
  have hT2 := Boxed.new w2 38 (.pointer (some ⟨w1.heap.size, 0, none⟩))
  have tb : Touch [] w2 (w2.alloc (.cells #[.pointer (some ⟨w1.heap.size, 0, none⟩)] 38)) := Touch.alloc _ _ _
  have hk2' := (hk2.keep tb (by intro k _ h; simp at h)).base (base' := w.heap.size) hB1.size
  have hB2 := (hB1.trans (ht2.below hB1.size (by simp))).trans (tb.below (by have := hB1.size; omega) (by simp))
  have o1 : w1.heap.size < w2.heap.size := by omega
  have o2 : w2.heap.size < (w2.alloc (.cells #[.pointer (some ⟨w1.heap.size, 0, none⟩)] 38)).heap.size := by simp
  clear hz2 hk2 ht2 ha1 hB1 tb
  generalize w1.heap.size = bt at *
  go_upto_region 4 with fail
  generalize hW3 : w2.alloc (.cells #[.pointer (some ⟨bt, 0, none⟩)] 38) = W3 at *
  clear hW3
  generalize w2.heap.size = tB at *
  have ct := hT2.cell
  go_wp2_with fail
  refine (hfew W3).mono ?_
  rintro e w' ⟨rfl, rfl⟩
  go_upto_region 7 with fail
  have hf0 : B3 w.heap.size tB W3.heap.size bt (.slice a l.length cap) ask (W3.alloc (.cells #[.slice a l.length cap] 22)) := ⟨ha2.alloc _, hT2.alloc _, Boxed.new _ _ _⟩
  have tc : Touch [] W3 (W3.alloc (.cells #[.slice a l.length cap] 22)) := Touch.alloc _ _ _
  have hk4 := hk2'.keep tc (by intro k _ h; simp at h)
  have hB4 := hB2.trans (tc.below hB2.size (by simp))
  have hX0 : ∀ q, q ∈ [w.heap.size, tB, W3.heap.size] → q ∉ [bt] := by intro q hq hq2; simp at hq hq2; omega
  clear tc hk2' hB2 ha2 hT2 ct o1 o2 z1
  generalize hW4 : W3.alloc (.cells #[.slice a l.length cap] 22) = W4 at *
  clear hW4
  generalize W3.heap.size = lB at *
  go_wp2_with fail
  refine (hfew' W4).mono ?_
  rintro e w' ⟨rfl, rfl⟩
  have hTab : Tab l d 0 0 W4 w.heap.size bt [] [] [bt] := ⟨hk4, fun p k v h => by simp at h, fun m k h => by omega, by simp⟩
  clear hk4
  go_wp2
  go_loopw [10] (fun i wr => ∃ (k : Nat) (ks vs : List Int) (F : List Nat), k ≤ l.length ∧ i = .int .i64 k ∧ B3 w.heap.size tB lB bt (.slice a l.length cap) ask wr ∧ Tab l d k 0 wr w.heap.size bt ks vs F ∧ (∀ q, q ∈ [w.heap.size, tB, lB] → q ∉ F) ∧ Below w.heap.size w wr) (fun i _ => l.length - (intOf i).toNat)
  case atStart => exact ⟨0, _, _, _, Nat.zero_le _, rfl, hf0, hTab, hX0, hB4⟩
  case round =>
    obtain ⟨k, ks, vs, F, hk, rfl, hf, ht, hX, hB⟩ := hrel
    clear hTab hX0 hB4
    clear hf0
    have HX : Hid (∀ q, q ∈ [w.heap.size, tB, lB] → q ∉ F) := hX
    clear hX
    have cl := hf.l.cell
    have ct := hf.t.cell
    by_cases hlt : k < l.length
    · obtain ⟨x, hx⟩ : ∃ x, l[k]? = some x := ⟨_, List.getElem?_eq_getElem hlt⟩
      obtain ⟨g, off, rfl, hg, hc⟩ := hl k x hx
      have hki : (k : Int) < (l.length : Int) := by omega
      have hcr : wr.cell? ⟨g, off + k, none⟩ = some (.int .i64 x) := (hB.cell (p := ⟨g, off + k, none⟩) hg).trans hc
      have Hx : Hid (l[k]? = some x) := hx
      clear hx
      go_wp2_with fail
      have hse := setS l d k bt w.heap.size x ks vs F wr.drew (ht.keep (Touch.drew [] wr) (by intro k _ h; simp at h)) Hx.out (by omega) hB.size
      have hwk : Hid (IntKind.u64.wrap (k : Int) = k) := by show _ = _; rw [IntKind.wrap_u64]; omega
      go_region_with (go_at_call 19; rw [hwk.out]; refine hse.mono ?_; rintro e w5 ⟨⟨r, rfl⟩, ks', vs', F', ht5, hT5', hn5⟩)
      all_goals
        have hT5 : Touch F wr w5 := (Touch.drew _ wr).trans hT5'
        have hf5 := hf.touch hT5 HX.out
        have HX5 : Hid (∀ q, q ∈ [w.heap.size, tB, lB] → q ∉ F') := away HX.out hn5 hf.lt
        have hB5 : Below w.heap.size w w5 := hB.trans (hT5.below hB.size (fun j hj => (ht.tab.mem j hj).1))
        clear hf ht hB hT5 hT5' hn5 HX cl ct hcr hse
        go_wp2
        exact ⟨⟨k + 1, ks', vs', F', hlt, by go_num, hf5, ht5, HX5.out, hB5⟩, by simp [intOf]; omega⟩
    · obtain rfl : k = l.length := by omega
      go_wp2
      go_loopw [11] (fun i wr => ∃ (j : Nat) (ks vs : List Int), j ≤ d.length ∧ i = .int .i64 j ∧ B3 w.heap.size tB lB bt (.slice a l.length cap) ask wr ∧ Tab l d l.length j wr w.heap.size bt ks vs F ∧ Below w.heap.size w wr) (fun i _ => d.length - (intOf i).toNat)
      case atStart => exact ⟨0, ks, vs, Nat.zero_le _, rfl, hf, ht, hB⟩
      case round =>
        clear hf ht hB cl ct
        obtain ⟨j, ks, vs, hj, rfl, hf, ht, hB⟩ := hrel
        have ct := hf.t.cell
        by_cases hjt : j < d.length
        · obtain ⟨x, hx⟩ : ∃ x, d[j]? = some x := ⟨_, List.getElem?_eq_getElem hjt⟩
          obtain ⟨g, off, rfl, hg, hc⟩ := hd j x hx
          have hji : (j : Int) < (d.length : Int) := by omega
          have hcr : wr.cell? ⟨g, off + j, none⟩ = some (.int .i64 x) := (hB.cell (p := ⟨g, off + j, none⟩) hg).trans hc
          have Hx : Hid (d[j]? = some x) := hx
          clear hx
          go_wp2_with fail
          have hse := dropS l d l.length j bt w.heap.size x ks vs F wr.drew (ht.keep (Touch.drew [] wr) (by intro k _ h; simp at h)) Hx.out (by omega)
          go_region_with (go_at_call 20; refine hse.mono ?_; rintro e w5 ⟨⟨r, rfl⟩, ks', vs', ht5, hT5'⟩)
          all_goals
            have hT5 : Touch F wr w5 := (Touch.drew _ wr).trans hT5'
            have hf5 := hf.touch hT5 HX.out
            have hB5 : Below w.heap.size w w5 := hB.trans (hT5.below hB.size (fun j hj => (ht.tab.mem j hj).1))
            clear hf ht hB hT5 hT5' ct hcr hse
            go_wp2
            exact ⟨⟨j + 1, ks', vs', hjt, by go_num, hf5, ht5, hB5⟩, by simp [intOf]; omega⟩
        · obtain rfl : j = d.length := by omega
          have hlt3 := hf.lt
          have HL : Hid (∀ q, q ∈ [w.heap.size, tB, lB] → q < wr.heap.size) := hlt3
          have hS := five_sv wr hf
          have ht5 := ht.keep (five_touch wr) (by intro k _ h; simp at h)
          have hB5 := hB.trans ((five_touch wr).below hB.size (by simp))
          have HF : Hid (∀ q, q ∈ F → w.heap.size ≤ q ∧ q < wr.heap.size) := fun q hq => ht.tab.mem q hq
          have hle := hB.size
          clear hf ht hB ct hlt3
          go_upto_region 21 with fail
          rw [five_eq]
          generalize five wr = W5 at hS ht5 hB5 ⊢
          generalize wr.heap.size = z at HL hS HF hle ⊢
          have hS6 : Sv tB (z + 4) z (z + 1) lB w.heap.size (z + 2) (z + 3) bt 0 (.slice a l.length cap) ask 0 0 false (W5.alloc (.cells #[.pointer (some ⟨bt, 0, none⟩)] 38)) := ⟨hS.t.alloc _, hS.ok.alloc _, hS.n.alloc _, hS.la.alloc _, hS.l.alloc _, hS.a.alloc _, hS.ne.alloc _, hS.fo.alloc _, hS.d1, hS.d2, hS.d3, hS.d4, hS.d5, hS.d6, hS.d7⟩
          have bl := Boxed.new W5 38 (.pointer (some ⟨bt, 0, none⟩))
          have ta : Touch [] W5 (W5.alloc (.cells #[.pointer (some ⟨bt, 0, none⟩)] 38)) := Touch.alloc _ _ _
          have ht6 := ht5.keep ta (by intro k _ h; simp at h)
          have hB6 := hB5.trans (ta.below hB5.size (by simp))
          have hklen := ht6.len
          have h5F : ∀ q, q ∈ [z + 4, z, z + 1, z + 2, z + 3] → q ∉ F := by
            intro q hq hqF
            have := (HF.out q hqF).2
            simp at hq
            omega
          have h5g : ∀ q, q ∈ [z + 4, z, z + 1, z + 2, z + 3] → w.heap.size ≤ q := by
            intro q hq
            simp at hq
            omega
          have hgo := walk_srt W5.heap.size tB (z + 4) z (z + 1) lB w.heap.size (z + 2) (z + 3) bt w.heap.size cap a ask l ks vs F w _ (tab_walked ht6.tab bl.cell (by omega)) hS6 ht6.tab h5F ht6.ent ht6.len (by omega) hl hB6 h5g
          have Hgo : Hid (Calls Try.prog 48 _ (W5.alloc (.cells #[.pointer (some ⟨bt, 0, none⟩)] 38)) _) := hgo
          have ct := hS.t.cell
          clear hgo hS6 bl ta ht5 hB5 hS
          go_wp2_with fail
          refine (allT_any bt _).mono ?_
          rintro e w' ⟨rfl, rfl⟩
          clear ct
          go_wp2_with fail
          refine Hgo.out.mono ?_
          rintro e W7 ⟨⟨r, rfl⟩, ⟨last, hS7⟩, hT7⟩
          have ht7 := ht6.keep hT7 (fun q hq hq5 => h5F q hq5 hq)
          have hB7 := hB6.trans (hT7.below hB6.size h5g)
          clear Hgo hT7 ht6 hB6 h5F h5g
          have hnr := nearS l d l.length d.length bt w.heap.size ask ks vs F W7 ht7 (by omega)
          generalize (nf ask ks).1 = nv, (nf ask ks).2 = fb at hS7 hnr
          have Hnr : Hid (Calls Try.prog 24 _ W7 _) := hnr
          have ct := hS7.t.cell
          have ca := hS7.a.cell
          clear hnr
          go_wp2_with fail
          refine Hnr.out.mono ?_
          rintro e w' ⟨⟨kn, vn, rfl, hkn⟩, nq, rfl⟩
          clear Hnr ct ca
          go_upto_region 23 with fail
          have ht8 := ht7.keep (Touch.drewN [] W7 nq) (by intro k _ h; simp at h)
          have hB8 := below_drewN hB7 nq
          have e1 : (W7.drewN nq).cell? ⟨z + 1 + 1 + 1 + 1, 0, none⟩ = some (.bool true) := hS7.ok.cell
          have e2 : (W7.drewN nq).cell? ⟨z, 0, none⟩ = some (.int .i64 ks.length) := hS7.n.cell
          have e3 : (W7.drewN nq).cell? ⟨tB, 0, none⟩ = some (.pointer (some ⟨bt, 0, none⟩)) := hS7.t.cell
          have e4 : (W7.drewN nq).cell? ⟨z + 1 + 1 + 1, 0, none⟩ = some (.bool fb) := hS7.fo.cell
          have e5 : (W7.drewN nq).cell? ⟨z + 1 + 1, 0, none⟩ = some (.int .i64 nv) := hS7.ne.cell
          have e6 : (W7.drewN nq).cell? ⟨lB, 0, none⟩ = some (.slice a l.length cap) := hS7.l.cell
          clear hS7 ht7 hB7
          generalize W7.drewN nq = W8 at ht8 hB8 e1 e2 e3 e4 e5 e6 ⊢
          have hln := lenS l d l.length d.length bt w.heap.size ks vs F W8 ht8
          go_cut [91] from 71 to 91 (fun v w' => v = .bool false ∧ ∃ n, w' = W8.drewN n)
          case first =>
            clear e6
            cases fb
            · go_quiet ((go_at_call 25; exact Calls.quiet_of_same (hln _)))
              go_wp2
              go_meet
              exact ⟨rfl, _, rfl⟩
            · obtain rfl : kn = nv := hkn rfl
              go_quiet ((go_at_call 25; exact Calls.quiet_of_same (hln _)))
              go_wp2
              go_meet
              exact ⟨rfl, _, rfl⟩
          case rest =>
          obtain ⟨rfl, n9, rfl⟩ := hcut
          have ht9 := ht8.keep (Touch.drewN [] W8 n9) (by intro k _ h; simp at h)
          have hB9 := below_drewN hB8 n9
          have ct : (W8.drewN n9).cell? ⟨tB, 0, none⟩ = some (.pointer (some ⟨bt, 0, none⟩)) := e3
          have cl : (W8.drewN n9).cell? ⟨lB, 0, none⟩ = some (.slice a l.length cap) := e6
          clear e1 e2 e3 e4 e5 e6 ht8 hB8 hln
          generalize W8.drewN n9 = W9 at ht9 hB9 ct cl ⊢
          clear HL HF hle HX hlt hjt
          go_wp2
          go_loopw [20] (fun i wr => ∃ (k n : Nat), k ≤ l.length ∧ i = .int .i64 k ∧ wr = W9.drewN n) (fun i _ => l.length - (intOf i).toNat)
          case atStart => exact ⟨0, 0, Nat.zero_le _, rfl, rfl⟩
          case round =>
            obtain ⟨k, n, hk, rfl, rfl⟩ := hrel
            by_cases hlt : k < l.length
            · obtain ⟨x, hx⟩ : ∃ x, l[k]? = some x := ⟨_, List.getElem?_eq_getElem hlt⟩
              obtain ⟨g, off, rfl, hg, hc⟩ := hl k x hx
              have hki : (k : Int) < (l.length : Int) := by omega
              have hcr : W9.cell? ⟨g, off + k, none⟩ = some (.int .i64 x) := (hB9.cell (p := ⟨g, off + k, none⟩) hg).trans hc
              have Hx : Hid (l[k]? = some x) := hx
              clear hx
              go_wp2
              go_loopw [21, 22] (fun gv jv wr => ∃ (gb : Bool) (j n : Nat), j ≤ d.length ∧ jv = .int .i64 j ∧ gv = .bool gb ∧ (gb = true ↔ Gone d j x) ∧ wr = W9.drewN n) (fun _ jv _ => d.length - (intOf jv).toNat)
              case atStart => exact ⟨false, 0, n, Nat.zero_le _, rfl, rfl, by simp [Gone], rfl⟩
              case round =>
                obtain ⟨gb, j, n', hj, rfl, rfl, hgb, rfl⟩ := hrel
                have Hgb : Hid (gb = true ↔ Gone d j x) := hgb
                clear hgb
                by_cases hjt : j < d.length
                · obtain ⟨y, hy⟩ : ∃ y, d[j]? = some y := ⟨_, List.getElem?_eq_getElem hjt⟩
                  obtain ⟨g2, off2, rfl, hg2, hc2⟩ := hd j y hy
                  have hji : (j : Int) < (d.length : Int) := by omega
                  have hcr2 : W9.cell? ⟨g2, off2 + j, none⟩ = some (.int .i64 y) := (hB9.cell (p := ⟨g2, off2 + j, none⟩) hg2).trans hc2
                  have Hst : Hid (Gone d (j + 1) x ↔ Gone d j x ∨ y = x) := gone_step hy
                  clear hy
                  cases gb
                  · go_wp2
                    go_quiet (fail)
                    go_wp2
                    exact ⟨⟨y == x, j + 1, _, hjt, by go_num, rfl, by rw [Hst.out, ← Hgb.out]; simp, rfl⟩, by simp [intOf]; omega⟩
                  · go_wp2
                    go_quiet (fail)
                    go_wp2
                    exact ⟨⟨true, j + 1, _, hjt, by go_num, rfl, by rw [Hst.out, ← Hgb.out]; simp, rfl⟩, by simp [intOf]; omega⟩
                · obtain rfl : j = d.length := by omega
                  have ht10 := ht9.keep (Touch.drewN [] W9 n') (by intro k _ h; simp at h)
                  have hB10 := below_drewN hB9 n'
                  have cl10 : (W9.drewN n').cell? ⟨lB, 0, none⟩ = some (.slice (some ⟨g, off, none⟩) l.length cap) := cl
                  have ct10 : (W9.drewN n').cell? ⟨tB, 0, none⟩ = some (.pointer (some ⟨bt, 0, none⟩)) := ct
                  have hcr10 : (W9.drewN n').cell? ⟨g, off + k, none⟩ = some (.int .i64 x) := hcr
                  obtain ⟨W10, hW10⟩ : ∃ W10, W10 = W9.drewN n' := ⟨_, rfl⟩
                  have HW : Hid (W10 = W9.drewN n') := hW10
                  rw [← hW10] at ht10 hB10 cl10 ct10 hcr10 ⊢
                  clear hW10 ht9 hB9 cl ct hcr
                  by_cases hG : Gone d d.length x
                  · obtain rfl : gb = true := Hgb.out.2 hG
                    have hge := getS_gone l d k bt w.heap.size x ks vs F W10 ht10 Hx.out (by omega) hG
                    clear ht10 Hgb hG
                    go_wp2
                    go_quiet ((go_at_call 23; exact Calls.quiet_of_same (hge _)))
                    go_wp2
                    go_quiet (fail)
                    go_wp2
                    exact ⟨⟨k + 1, _, hlt, by go_num, by rw [HW.out]; exact World.drewN_drewN ..⟩, by simp [intOf]; omega⟩
                  · obtain rfl : gb = false := by
                      cases gb
                      · rfl
                      · exact absurd (Hgb.out.1 rfl) hG
                    obtain ⟨m, hkm, hml, hlm, hge⟩ := getS_there l d k bt w.heap.size x ks vs F W10 ht10 Hx.out (by omega) hG
                    obtain ⟨g3, off3, e3, hg3, hc3⟩ := hl m x hlm
                    simp only [Option.some.injEq, Addr.mk.injEq, and_true] at e3
                    obtain ⟨rfl, rfl⟩ := e3
                    have hcm : W10.cell? ⟨g, off + m, none⟩ = some (.int .i64 x) := (hB10.cell (p := ⟨g, off + m, none⟩) hg3).trans hc3
                    have hwk : IntKind.u64.wrap (k : Int) = k := by rw [IntKind.wrap_u64]; omega
                    have hmi : (m : Int) < (l.length : Int) := by omega
                    have hmk : ¬ (m : Int) < (k : Int) := by omega
                    clear ht10 Hgb hG hlm
                    go_wp2
                    go_quiet ((go_at_call 23; exact Calls.quiet_of_same (hge _)))
                    go_wp2
                    go_quiet (fail)
                    go_wp2
                    exact ⟨⟨k + 1, _, hlt, by go_num, by rw [HW.out]; exact World.drewN_drewN ..⟩, by simp [intOf]; omega⟩
            · obtain rfl : k = l.length := by omega
              go_wp2
              go_ret
              exact ⟨rfl, below_drewN hB9 _⟩

end Go.Proofs.Ytcjblafohfiiaaa
