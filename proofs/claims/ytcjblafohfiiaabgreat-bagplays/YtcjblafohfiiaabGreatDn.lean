/-
  The stack's iterator: slices.Backward, and downward over it.
-/
import Derived.Test.YtcjblafohfiiaabGreatCo
set_option linter.unusedVariables false
namespace Go.Proofs.YtcjblafohfiiaabGreat
open Go.RowKit Go.Shelf

attribute [local go_sem] Oper.semAt_some

def bkw (zs : List Int) : List (Nat × Int) := (zs.zipIdx.map (fun p => (p.2, p.1))).reverse

theorem bkw_length (zs : List Int) : (bkw zs).length = zs.length := by simp [bkw]

theorem bkw_snd (zs : List Int) : (bkw zs).map Prod.snd = zs.reverse := by
  unfold bkw
  rw [List.map_reverse, List.map_map]
  congr 1
  exact List.zipIdx_map_fst 0 zs

theorem bkw_get (zs : List Int) (k : Nat) (hk : k < zs.length) (x : Int) (hx : zs[zs.length - 1 - k]? = some x) : (bkw zs)[k]? = some (zs.length - 1 - k, x) := by
  unfold bkw
  rw [List.getElem?_reverse (by simpa using hk)]
  simp [hx]

set_option maxRecDepth 100000 in
set_option maxHeartbeats 2000000 in
theorem backI_full (Bs n0 : Nat) (sv : Value) (zs : List Int) (w : World) (hBs : Bs < w.heap.size) (hn0 : n0 ≤ w.heap.size) (hlen : zs.length < 1000000) (hc : w.cell? ⟨Bs, 0, none⟩ = some sv) (hI : SliceIs n0 w sv zs) :
    SeqFull Tryz.prog 123 #[.pointer (some ⟨Bs, 0, none⟩)] (fun p : Nat × Int => #[Value.int .i64 (p.1 : Int), Value.int .i64 p.2]) (bkw zs) n0 (fun k => k = Bs) w := fun n l J W S0 hW hS0 hJ hY h0 => by
  have hc' := (hW.cell (p := ⟨Bs, 0, none⟩) hBs).trans hc
  refine callsIn_of_wp Tryz.func123 rfl trivial ?_ rfl
  simp only [Tryz.ntmps123, List.size_toArray, List.length_cons, List.length_nil, Nat.reduceAdd, Nat.reduceSub, Array.replicate_succ, Array.replicate_zero, List.push_toArray, List.append_toArray, List.nil_append, List.cons_append]
  rcases hI.below hW hn0 with ⟨rfl, rfl⟩ | ⟨b, off, cap, rfl, hb, hcs⟩
  · gi_wp2
    gi_loopw [3] (fun i wr => i = .int .i64 (-1) ∧ J S0 [] wr) (fun _ _ => 0)
    case atStart => exact ⟨rfl, h0⟩
    case round =>
      obtain ⟨rfl, hJs⟩ := hrel
      gi_wp2
      go_end0
      exact ⟨⟨_, rfl⟩, _, hJs⟩
  · gi_wp2
    gi_loopw [3] (fun i wr => ∃ (k : Nat) (S : Nat → Prop), k ≤ zs.length ∧ i = .int .i64 ((zs.length : Int) - 1 - k) ∧ J S ((bkw zs).take k) wr ∧ S Bs ∧ wr.cell? ⟨Bs, 0, none⟩ = some (.slice (some ⟨b, off, none⟩) zs.length cap) ∧ Below n0 W wr)
      (fun i _ => (intOf i + 1).toNat)
    case atStart => exact ⟨0, S0, Nat.zero_le _, by simp, h0, hS0 _ rfl, hc', Below.refl _ _⟩
    case round =>
      obtain ⟨k, S, hk, rfl, hJs, hSB, hcB, hnx⟩ := hrel
      by_cases hlt : k < zs.length
      · obtain ⟨x, hx⟩ : ∃ x, zs[zs.length - 1 - k]? = some x := ⟨_, List.getElem?_eq_getElem (by omega)⟩
        have hcx : wr.cell? ⟨b, off + (zs.length - 1 - k), none⟩ = some (.int .i64 x) := (hnx.cell (p := ⟨b, off + (zs.length - 1 - k), none⟩) hb).trans (hcs _ x hx)
        have hsn := take_snoc (bkw_get zs k hlt x hx)
        obtain ⟨fn, tmps, assign, body, hy, hR⟩ := hY S ((bkw zs).take k) (zs.length - 1 - k, x) wr hJs (by rw [hsn]; exact List.take_prefix _ _) (n - 1)
        have Hsn : Hid ((bkw zs).take k ++ [(zs.length - 1 - k, x)] = (bkw zs).take (k + 1)) := hsn
        clear hsn hx
        dsimp only at hy
        rw [show ((zs.length - 1 - k : Nat) : Int) = (zs.length : Int) - 1 - k by omega] at hy
        have hge : (0 : Int) ≤ (zs.length : Int) - 1 - k := by omega
        have hlt2 : (zs.length : Int) - 1 - k < zs.length := by omega
        gi_wp2
        refine ⟨fun h => (by cases h), hR.mono ?_⟩
        rintro e W3 ⟨rfl, hJ3, hS3, hk3⟩
        rw [Hsn.out] at hJ3
        have hcB3 : W3.cell? ⟨Bs, 0, none⟩ = some (.slice (some ⟨b, off, none⟩) zs.length cap) := (World.cell?_of_block (w := wr) (hS3 Bs hSB)).trans hcB
        gi_wp2
        go_roundw
        case rel => exact ⟨k + 1, S, hlt, by congr 1; omega, hJ3, hSB, hcB3, hnx.trans hk3⟩
        case measure => simp [intOf]; omega
      · obtain rfl : k = zs.length := by omega
        rw [← bkw_length zs, List.take_length] at hJs
        have hge : ¬ (0 : Int) ≤ (zs.length : Int) - 1 - zs.length := by omega
        gi_wp2
        go_end0
        exact ⟨⟨_, rfl⟩, S, hJs⟩

set_option maxHeartbeats 1000000 in
theorem backI_any (a : Option Addr) (len cap : Nat) (w : World) :
    Calls Tryz.prog 106 #[.slice a len cap] w fun e w' => e = .returned (.func (.func 123) #[] #[.pointer (some ⟨w.heap.size, 0, none⟩)]) ∧ w' = w.alloc (.cells #[.slice a len cap] 68) := by
  go_enter Tryz.func106, Tryz.ntmps106
  go_wp2
  go_ret
  exact ⟨rfl, rfl⟩

/-- What downward holds between two rounds of its own. -/
def Yielding (J : (Nat → Prop) → List Int → World → Prop) (l yb : Nat) (S : Nat → Prop) (pre : List (Nat × Int)) (W : World) : Prop :=
  J S (pre.map Prod.snd) W ∧ S yb ∧ Boxed W yb 111 (.func (.yield l) #[] #[])

theorem yielding_own {J : (Nat → Prop) → List Int → World → Prop} {B B' : Nat} (hJ : OwnS B J) (hB : B ≤ B') (l yb : Nat) : OwnS B' (Yielding J l yb) := by
  rintro S s X Y row ⟨h1, h2, h3⟩ hg hrow
  refine ⟨hJ S _ X Y row h1 hg (fun r e => ⟨by have := (hrow r e).1; omega, (hrow r e).2⟩), .inl h2, h3.kept hg (fun e => ?_)⟩
  obtain ⟨_, o, ho, hc⟩ := hrow _ e.symm
  rw [show X.heap[yb]? = _ from h3] at ho; cases ho; cases hc

set_option maxRecDepth 100000 in
set_option maxHeartbeats 4000000 in
theorem downward_full (Bx bs n0 : Nat) (sv : Value) (zs : List Int) (w : World) (hBx : Bx < w.heap.size) (hbs : bs < w.heap.size) (hn0 : n0 ≤ w.heap.size) (hlen : zs.length < 1000000) (hc : w.cell? ⟨Bx, 0, none⟩ = some (.pointer (some ⟨bs, 0, none⟩)))
    (hcs : w.cell? ⟨bs, 0, none⟩ = some sv) (hI : SliceIs n0 w sv zs) :
    SeqFull Tryz.prog 105 #[.pointer (some ⟨Bx, 0, none⟩)] (fun x : Int => #[Value.int .i64 x]) zs.reverse n0 (fun _ => False) w := fun n l J W S0 hW _ hJ hY h0 => by
  have hc' := (hW.cell (p := ⟨Bx, 0, none⟩) hBx).trans hc
  have hcs' := (hW.cell (p := ⟨bs, 0, none⟩) hbs).trans hcs
  have hI' := hI.below hW hn0
  have hsv : ∃ a len cap, sv = .slice a len cap := by
    rcases hI' with ⟨rfl, _⟩ | ⟨b, off, cap, rfl, _⟩
    · exact ⟨_, _, _, rfl⟩
    · exact ⟨_, _, _, rfl⟩
  obtain ⟨sa, slen, scap, rfl⟩ := hsv
  refine callsIn_of_wp_marks Tryz.func105 rfl trivial ?_ rfl
  simp only [Tryz.ntmps105, List.size_toArray, List.length_cons, List.length_nil, Nat.reduceAdd, Nat.reduceSub, Array.replicate_succ, Array.replicate_zero, List.push_toArray, List.append_toArray, List.nil_append, List.cons_append]
  have hbxl : Bx < W.heap.size := World.block_lt_of_cell? _ _ hc'
  have hbsl : bs < W.heap.size := World.block_lt_of_cell? _ _ hcs'
  gi_wp2_with fail
  refine ⟨trivial, fun h => (by cases h), (callsIn_wide.2 (backI_any _ _ _ _)).mono ?_⟩
  rintro e w' ⟨rfl, rfl⟩
  gi_wp2
  have bY := Boxed.new W 111 (.func (.yield l) #[] #[])
  have bS := Boxed.new (W.alloc (.cells #[.func (.yield l) #[] #[]] 111)) 68 (.slice sa slen scap)
  rw [World.size_alloc] at bS
  have hB0 : Below W.heap.size W ((W.alloc (.cells #[.func (.yield l) #[] #[]] 111)).alloc (.cells #[.slice sa slen scap] 68)) := ((Below.refl _ W).alloc (Nat.le_refl _) _).alloc (by simp) _
  have hJ0 := hJ.alloc (hJ.alloc h0 (.cells #[.func (.yield l) #[] #[]] 111)) (.cells #[.slice sa slen scap] 68)
  have hn0W : n0 ≤ W.heap.size := Nat.le_trans hn0 hW.size
  have hseq := backI_full (W.heap.size + 1) n0 (.slice sa slen scap) zs _ (by simp) (by simp; omega) hlen bS.cell (hI'.below hB0 hn0W)
  generalize hw2 : (W.alloc (.cells #[.func (.yield l) #[] #[]] 111)).alloc (.cells #[.slice sa slen scap] 68) = w2 at hJ0 hseq bS hB0 ⊢
  have hsz2 : w2.heap.size = W.heap.size + 2 := by rw [← hw2]; simp
  have bY2 : Boxed w2 W.heap.size 111 (.func (.yield l) #[] #[]) := by rw [← hw2]; exact bY.alloc _
  refine range_full (gf := 123) (lb := #[.pointer (some ⟨W.heap.size + 1, 0, none⟩)]) (w0 := w2) (n0 := n0) rfl (enters_of Tryz.func123 (by kernel_rfl) rfl) hseq (fun k h => ?own) (Below.refl _ _) (by omega) (fun _ => rfl)
    (Yielding J l W.heap.size) (yielding_own hJ (by omega) l W.heap.size) ⟨hJ0, ?hs, bY2⟩
    (fun p => { tmps := #[.func (.yield l) #[] #[], .pointer (some ⟨Bx, 0, none⟩), .pointer (some ⟨W.heap.size, 0, none⟩), undef, .int .i64 p.2, .pointer (some ⟨bs, 0, none⟩), .pointer (some ⟨bs, 0, none⟩), .pointer (some ⟨bs, 0, none⟩), .slice sa slen scap, .func (.func 123) #[] #[.pointer (some ⟨W.heap.size + 1, 0, none⟩)], .int .i64 (p.1 : Int), .int .i64 p.2, undef, undef, undef, undef], defers := [] }) ?assign ?body ?done
  case own => subst h; exact .inr ⟨by simp, by omega⟩
  case hs => exact .inl (.inr ⟨Nat.le_refl _, by simp⟩)
  case assign =>
    intro l2 p W2 K m hK
    gi_wp2
    exact hK
  case body =>
    rintro l2 S pre p W2 m ⟨hj, hSy, hby⟩ hpre
    obtain ⟨fn, tmps, assign, body, hy, hR⟩ := hY S (pre.map Prod.snd) p.2 W2 hj (by
      obtain ⟨t, ht⟩ := hpre
      refine ⟨t.map Prod.snd, ?_⟩
      rw [← bkw_snd, ← ht]; simp) (m - 1)
    have hcy := hby.cell
    gi_wp2
    refine ⟨fun h => (by cases h), RoundIn.mono (show RoundIn (Fence.wide.inRound l2) _ _ _ _ _ _ _ _ _ from hR) ?_⟩
    rintro e W3 ⟨rfl, hJ3, hS3, hk3⟩
    gi_wp2
    refine ⟨hS3, hk3, ?_, hSy, (hS3 _ hSy).trans hby⟩
    rw [List.map_append]; exact hJ3
  case done =>
    rintro D S W3 hD ⟨hj, _, _⟩ hK
    rw [bkw_snd] at hj
    gi_wp2
    refine ⟨by simp, .inl ⟨_, _, rfl, run_takeDeferred hK, ?_⟩⟩
    exact ⟨_, results_none rfl _ _ _, ⟨_, rfl⟩, S, hJ.putObj _ hj (by omega) hK rfl⟩

end Go.Proofs.YtcjblafohfiiaabGreat
