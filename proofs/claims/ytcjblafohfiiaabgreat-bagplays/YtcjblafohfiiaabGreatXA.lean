import Derived.Test.YtcjblafohfiiaabGreatIt
import Derived.Test.YtcjblafohfiiaabGreatXSt
import Derived.Test.YtcjblafohfiiaabGreatFz
import Derived.Test.YtcjblafohfiiaabGreatSi
import Derived.Deep.QuietTactic
import Derived.BigQuiet
import Derived.Test.YtcjblafohfiiaabGreatIc
import Derived.Maps.AppendAt
import Derived.Test.YtcjblafohfiiaabGreatRf
import Derived.Test.YtcjblafohfiiaabGreatShelf
import Derived.RegionTactic
import Derived.ChangeAlike
import Derived.BigRegion
import Derived.Deep.RegionWith
import Derived.Test.YtcjblafohfiiaabGreatIns
import Derived.Test.YtcjblafohfiiaabGreatInsT
import Derived.Shelf.Slices.Delete
import Derived.Deep.RegionLaw
import Derived.Test.YtcjblafohfiiaabGreatSo
/-
  The library's iterators over numbers, and copied.
-/
set_option linter.unusedVariables false
namespace Go.Proofs.YtcjblafohfiiaabGreat.Tx
open Go.RowKit Go.Shelf

attribute [local go_sem] Oper.semAt_some

/-- The slice value holds the numbers, in a block below n0. -/
def SliceIs (n0 : Nat) (W : World) (sv : Value) (zs : List ByteArray) : Prop :=
  (sv = .slice none 0 0 ∧ zs = []) ∨ ∃ b off cap, sv = .slice (some ⟨b, off, none⟩) zs.length cap ∧ b < n0 ∧ ∀ (j : Nat) x, zs[j]? = some x → W.cell? ⟨b, off + j, none⟩ = some (.string x)

theorem SliceIs.below {n0 n1 : Nat} {A B : World} {sv : Value} {zs : List ByteArray} (h : Below n1 A B) (hn : n0 ≤ n1) : SliceIs n0 A sv zs → SliceIs n0 B sv zs
  | .inl e => .inl e
  | .inr ⟨b, off, cap, e, hb, hc⟩ => .inr ⟨b, off, cap, e, hb, fun j x hj => (h.cell (p := ⟨b, off + j, none⟩) (by show b < n1; omega)).trans (hc j x hj)⟩

set_option maxRecDepth 100000 in
set_option maxHeartbeats 2000000 in
theorem valuesI_full (Bs n0 : Nat) (sv : Value) (zs : List ByteArray) (w : World) (hBs : Bs < w.heap.size) (hn0 : n0 ≤ w.heap.size) (hlen : zs.length < 1000000) (hc : w.cell? ⟨Bs, 0, none⟩ = some sv) (hI : SliceIs n0 w sv zs) :
    SeqFull Tryz.prog 125 #[.pointer (some ⟨Bs, 0, none⟩)] (fun x : ByteArray => #[Value.string x]) zs n0 (fun _ => False) w := fun n l J W S0 hW _ hJ hY h0 => by
  have hc' := (hW.cell (p := ⟨Bs, 0, none⟩) hBs).trans hc
  refine callsIn_of_wp Tryz.func125 rfl trivial ?_ rfl
  simp only [Tryz.ntmps125, List.size_toArray, List.length_cons, List.length_nil, Nat.reduceAdd, Nat.reduceSub, Array.replicate_succ, Array.replicate_zero, List.push_toArray, List.append_toArray, List.nil_append, List.cons_append]
  rcases hI.below hW hn0 with ⟨rfl, rfl⟩ | ⟨b, off, cap, rfl, hb, hcs⟩
  · gi_wp2
    gi_loopw [7] (fun i wr => i = .int .i64 0 ∧ J S0 [] wr) (fun _ _ => 0)
    case atStart => exact ⟨rfl, h0⟩
    case round =>
      obtain ⟨rfl, hJs⟩ := hrel
      gi_wp2
      go_end0
      exact ⟨⟨_, rfl⟩, _, hJs⟩
  · gi_wp2
    gi_loopw [7] (fun i wr => ∃ (k : Nat) (S : Nat → Prop), k ≤ zs.length ∧ i = .int .i64 k ∧ J S (zs.take k) wr ∧ Below n0 W wr)
      (fun i _ => zs.length - (intOf i).toNat)
    case atStart => exact ⟨0, S0, Nat.zero_le _, rfl, h0, Below.refl _ _⟩
    case round =>
      obtain ⟨k, S, hk, rfl, hJs, hnx⟩ := hrel
      by_cases hlt : k < zs.length
      · obtain ⟨x, hx⟩ : ∃ x, zs[k]? = some x := ⟨_, List.getElem?_eq_getElem hlt⟩
        have hcx : wr.cell? ⟨b, off + k, none⟩ = some (.string x) := (hnx.cell (p := ⟨b, off + k, none⟩) hb).trans (hcs k x hx)
        have hsn := take_snoc hx
        obtain ⟨fn, tmps, assign, body, hy, hR⟩ := hY S (zs.take k) x wr hJs (by rw [hsn]; exact List.take_prefix _ _) (n - 1)
        have Hsn : Hid (zs.take k ++ [x] = zs.take (k + 1)) := hsn
        clear hsn hx
        gi_wp2
        refine ⟨fun h => (by cases h), hR.mono ?_⟩
        rintro e W3 ⟨rfl, hJ3, hS3, hk3⟩
        rw [Hsn.out] at hJ3
        gi_wp2
        go_roundw
        case rel => exact ⟨k + 1, S, hlt, by go_num, hJ3, hnx.trans hk3⟩
        case measure => simp [intOf]; omega
      · obtain rfl : k = zs.length := by omega
        rw [List.take_length] at hJs
        gi_wp2
        go_end0
        exact ⟨⟨_, rfl⟩, S, hJs⟩

set_option maxHeartbeats 1000000 in
theorem valuesI_any (a : Option Addr) (len cap : Nat) (w : World) :
    Calls Tryz.prog 110 #[.slice a len cap] w fun e w' => e = .returned (.func (.func 125) #[] #[.pointer (some ⟨w.heap.size, 0, none⟩)]) ∧ w' = w.alloc (.cells #[.slice a len cap] 72) := by
  go_enter Tryz.func110, Tryz.ntmps110
  go_wp2
  go_ret
  exact ⟨rfl, rfl⟩

end Go.Proofs.YtcjblafohfiiaabGreat.Tx

/-
  copied: what an iterator gives, in a list of its own.
-/
set_option linter.unusedVariables false
namespace Go.Proofs.YtcjblafohfiiaabGreat.Tx
open Go.RowKit Go.Shelf

attribute [local go_sem] Oper.semAt_some

set_option maxRecDepth 100000 in
set_option maxHeartbeats 2000000 in
theorem copiedI_any (gf : Nat) (lb : Array Value) (xs : List ByteArray) (Own : Nat → Prop) (w : World) (eg : ∀ args w, (callFunc gf args).run Tryz.prog w = .ok (.enter gf args) w)
    (hseq : SeqFull Tryz.prog gf lb (fun x : ByteArray => #[Value.string x]) xs w.heap.size Own w) (hOwn : ∀ k, Own k → k < w.heap.size) (hlen : xs.length < 1000000) :
    Calls Tryz.prog 109 #[.func (.func gf) #[] lb] w fun e W' => ∃ v, e = .returned v ∧ W'.ownsRow w.heap.size 9 1 v xs.length (strs xs) ∧ Below w.heap.size w W' := by
  refine (callsIn_wide (n := 9)).1 ?_
  obtain ⟨i0, hi, hz0, hz1, hz2⟩ := info_parts Tryz.infoStr
  refine callsIn_of_wp_marks Tryz.func109 rfl trivial ?_ rfl
  simp only [Tryz.ntmps109, List.size_toArray, List.length_cons, List.length_nil, Nat.reduceAdd, Nat.reduceSub, Array.replicate_succ, Array.replicate_zero, List.push_toArray, List.append_toArray, List.nil_append, List.cons_append]
  gi_wp2
  have bO := Boxed.new w 72 (.slice none 0 0)
  refine range_full (S0 := fun k => k < w.heap.size) (gf := gf) (lb := lb) (w0 := w) (n0 := w.heap.size) rfl eg hseq hOwn ((Below.refl _ w).alloc (Nat.le_refl _) _) (by simp) (fun _ => rfl)
    (Copying w 72 9 Value.string) (copying_own w 72 9 Value.string _ (by simp))
    ⟨_, bO, World.ownsRow_nil _ _ _ _, by simp, by simp [Value.ownBlock], fun k h => by simp at h ⊢; omega, (Below.refl _ w).alloc (Nat.le_refl _) _⟩
    (fun x => { tmps := #[.func (.func gf) #[] lb, undef, .slice none 0 0, .pointer (some ⟨w.heap.size, 0, none⟩), .string x, .func (.func gf) #[] lb, .string x, undef, undef, undef, undef, undef], defers := [] }) ?assign ?body ?done
  case assign =>
    intro l x W K m hK
    gi_wp2
    exact hK
  case body =>
    rintro l S pre x W m ⟨v, hv, hrow, h1, h2, h3, hB⟩ hpre
    have hpl : pre.length < 1000000 := by have := hpre.length_le; simp at this; omega
    have hc := hv.cell
    gi_wp2_with (gi_at_builtin; refine wpListIn_append_own_at _ rfl _ _ 72 rfl w.heap.size 9 i0 (.string ⟨#[]⟩) 1 16 Tryz.underlying72 hi hz0 hz1 hz2 rfl (by decide) _ _ _ rfl (hrow.alloc _) ⟨W.heap.size, 0, none⟩ 1 1 [.string x] rfl rfl (cell_one_new _ _ _) (by simp [Value.oneCell']) (by simp [maxLen]; omega) (by omega) (by have := hB.size; simp; omega) ?_; intro v' w1 hown' hgrow _ hat; obtain ⟨g', cap', rfl⟩ := ownsRow_succ hown'; obtain ⟨hv1, hv2, hr2, hk2, hb2⟩ := hv.appended (by decide) hrow hB.size (Nat.le_refl _) hown' hgrow; have hc1 := hv1.cell; have hf1 := hv1.frozen)
    exact copying_step (by decide) hv hrow h1 h2 h3 hB hown' hgrow hat
  case done =>
    rintro D S W hD ⟨v, hv, hrow, -, -, -, hB⟩ hK
    have hc := hv.cell
    gi_wp2
    refine ⟨by simp, .inl ⟨_, _, rfl, run_takeDeferred hK, ?_⟩⟩
    exact ⟨_, results_tmp rfl _ _ _, v, rfl, ownsRow_putObj hrow _ hK rfl, hB.trans (belowK_b (w := w) (Nat.le_refl _) W D _ _ (by simp at hD; omega) hK rfl rfl)⟩

end Go.Proofs.YtcjblafohfiiaabGreat.Tx

/-
  frozen: going through what is there when one begins.
-/
set_option linter.unusedVariables false
namespace Go.Proofs.YtcjblafohfiiaabGreat.Tx
open Go.RowKit Go.Shelf

/-- What whoever goes through an iterator of numbers is told: J between two things, Jx behind a thing at which it said no more; g: a block that it leaves alone. -/
def Walked (P : Program) (fz : Nat) (Bl : Nat) (xs : List ByteArray) (W : World) : Prop :=
  ∀ (k : Nat) (caps : Array Value) (J Jx : Nat → List ByteArray → World → Prop), (∀ args w, (callFunc k args).run P w = .ok (.enter k args) w) →
    (∀ g W1, Below W.heap.size W W1 → W.heap.size ≤ g → g < W1.heap.size → J g [] W1) →
    (∀ g pre x W2, J g pre W2 → pre ++ [x] <+: xs → Calls P k (#[.string x] ++ caps) W2 fun e W3 => W3.heap[g]? = W2.heap[g]? ∧ ((e = .returned (.bool true) ∧ J g (pre ++ [x]) W3) ∨ (e = .returned (.bool false) ∧ Jx g (pre ++ [x]) W3))) →
    Calls P fz #[.func (.func k) #[] caps, .pointer (some ⟨Bl, 0, none⟩)] W fun e W' => (∃ r, e = .returned r) ∧ ∃ g, J g xs W' ∨ ∃ pre, pre <+: xs ∧ Jx g pre W'

set_option maxHeartbeats 2000000 in
theorem frozenQ_core (Bl bs : Nat) (xs : List ByteArray) (W : World) (HL : World → Prop) (lv : Value) (hbl : W.cell? ⟨Bl, 0, none⟩ = some (.func (.func 86) #[.pointer (some ⟨bs, 0, none⟩)] #[])) (hxl : xs.length < 1000000)
    (hlive : Calls Tryz.prog 86 #[.pointer (some ⟨bs, 0, none⟩)] W fun e w' => e = .returned lv ∧ HL w')
    (hcop : ∀ w1, HL w1 → Calls Tryz.prog 109 #[lv] w1 fun e W1 => ∃ v, e = .returned v ∧ W1.ownsRow W.heap.size 9 1 v xs.length (strs xs) ∧ Below W.heap.size W W1 ∧ W.heap.size < W1.heap.size) :
    Walked Tryz.prog 108 Bl xs W := by
  intro k caps J Jx ek hstart hcb
  have Hcb : Hid (∀ g pre x W2, J g pre W2 → pre ++ [x] <+: xs → Calls Tryz.prog k (#[.string x] ++ caps) W2 fun e W3 => W3.heap[g]? = W2.heap[g]? ∧ ((e = .returned (.bool true) ∧ J g (pre ++ [x]) W3) ∨ (e = .returned (.bool false) ∧ Jx g (pre ++ [x]) W3))) := hcb
  clear hcb
  go_enter Tryz.func108, Tryz.ntmps108
  go_wp2_with fail
  refine hlive.mono ?_
  rintro e w1 ⟨rfl, hw1⟩
  have hcop1 := hcop w1 hw1
  clear hcop
  go_wp2_with fail
  refine hcop1.mono ?_
  rintro e W1 ⟨v, rfl, hrow, hBW, hsz⟩
  clear hcop1 hlive hbl
  rcases hrow.2 with ⟨rfl, h0⟩ | ⟨g, cap, cur, rfl, hgW, hgg, hn, hm, hs, ht⟩
  · obtain rfl : xs = [] := List.eq_nil_of_length_eq_zero h0
    clear hrow
    go_wp2
    refine wp_loop_rounds 1 ?_
    rw [rounds_succ]
    go_wp2
    go_end0
    exact ⟨⟨_, rfl⟩, W.heap.size, .inl (hstart _ _ hBW (Nat.le_refl _) hsz)⟩
  · have hgl : g < W1.heap.size := heap_lt hgg
    have hJ0 := hstart g W1 hBW hgW hgl
    have Hcur : Hid (∀ (j : Nat) x, xs[j]? = some x → cur[j]? = some (.string x)) := fun j x hj => by
      have hjl := (List.getElem?_eq_some_iff.1 hj).1
      have h1 : (strs xs)[j]? = some (.string x) := by simp [hj]
      rw [← h1, ← ht, List.getElem?_take, if_pos (by omega), Array.getElem?_toList]
    clear hstart hrow ht hs hn hm
    have Hgg : Hid (W1.heap[g]? = some (.cells cur 9 (0, 0))) := hgg
    clear hgg
    go_wp2
    go_loopw [9] (fun i wr => ∃ j : Nat, j ≤ xs.length ∧ i = .int .i64 j ∧ J g (xs.take j) wr ∧ wr.heap[g]? = some (.cells cur 9 (0, 0))) (fun i _ => xs.length - (intOf i).toNat)
    case atStart => exact ⟨0, Nat.zero_le _, rfl, hJ0, Hgg.out⟩
    case round =>
      obtain ⟨j, hj, rfl, hJs, hgr⟩ := hrel
      have Hgr : Hid (wr.heap[g]? = some (.cells cur 9 (0, 0))) := hgr
      by_cases hlt : j < xs.length
      · obtain ⟨x, hx⟩ : ∃ x, xs[j]? = some x := ⟨_, List.getElem?_eq_getElem hlt⟩
        have hcx : wr.cell? ⟨g, j, none⟩ = some (.string x) := (heap_cell hgr j).trans (Hcur.out j x hx)
        have hsn := take_snoc hx
        have hcal := Hcb.out g (xs.take j) x wr hJs (by rw [hsn]; exact List.take_prefix _ _)
        rw [hsn] at hcal
        clear hsn hx hgr
        have hji : (j : Int) < xs.length := by omega
        go_wp2_with fail
        refine hcal.mono ?_
        rintro e W3 ⟨hg3, ⟨rfl, hJ3⟩ | ⟨rfl, hJx3⟩⟩
        · have Hg3 : Hid (W3.heap[g]? = some (.cells cur 9 (0, 0))) := hg3.trans Hgr.out
          clear hg3 hcal
          go_wp2
          go_roundw
          case rel => exact ⟨j + 1, hlt, by go_num, hJ3, Hg3.out⟩
          case measure => simp [intOf]; omega
        · clear hg3 hcal
          go_wp2
          refine bodyPost_ret (results_none rfl _ _ _) rfl ?_
          exact ⟨⟨_, rfl⟩, g, .inr ⟨_, List.take_prefix _ _, hJx3⟩⟩
      · obtain rfl : j = xs.length := by omega
        rw [List.take_length] at hJs
        clear hgr
        go_wp2
        go_end0
        exact ⟨⟨_, rfl⟩, g, .inl hJs⟩

set_option maxHeartbeats 1000000 in
theorem onward_any (b : Nat) (a : Option Addr) (n cap : Nat) (w : World) (hheld : Calls Tryz.prog 83 #[.pointer (some ⟨b, 0, none⟩)] w fun e w' => e = .returned (.slice a n cap) ∧ ∃ nq, w' = w.drewN nq) :
    Calls Tryz.prog 86 #[.pointer (some ⟨b, 0, none⟩)] w fun e w' => e = .returned (.func (.func 125) #[] #[.pointer (some ⟨w.heap.size, 0, none⟩)]) ∧ ∃ nq, w' = (w.drewN nq).alloc (.cells #[.slice a n cap] 72) := by
  go_enter Tryz.func86, Tryz.ntmps86
  go_wp2_with fail
  refine hheld.mono ?_
  rintro e w' ⟨rfl, nq, rfl⟩
  go_wp2_with fail
  refine (valuesI_any _ _ _ _).mono ?_
  rintro e w' ⟨rfl, rfl⟩
  go_wp2
  go_ret
  exact ⟨rfl, nq, rfl⟩

theorem qall_any (b : Nat) (w : World) :
    Calls Tryz.prog 53 #[.pointer (some ⟨b, 0, none⟩)] w fun e w' => e = .returned (.func (.func 108) #[] #[.pointer (some ⟨w.heap.size, 0, none⟩)]) ∧ w' = w.alloc (.cells #[.func (.func 86) #[.pointer (some ⟨b, 0, none⟩)] #[]] 107) := by
  go_enter Tryz.func53, Tryz.ntmps53
  go_wp2
  go_ret
  exact ⟨rfl, rfl⟩

theorem frozenQ_any (Bl b n cap : Nat) (a : Option Addr) (xs : List ByteArray) (W : World) (hbl : W.cell? ⟨Bl, 0, none⟩ = some (.func (.func 86) #[.pointer (some ⟨b, 0, none⟩)] #[]))
    (hheld : Calls Tryz.prog 83 #[.pointer (some ⟨b, 0, none⟩)] W fun e w' => e = .returned (.slice a n cap) ∧ ∃ nq, w' = W.drewN nq) (hI : SliceIs W.heap.size W (.slice a n cap) xs) (hlen : xs.length < 1000000) :
    Walked Tryz.prog 108 Bl xs W := by
  refine frozenQ_core Bl b xs W _ _ hbl hlen (onward_any b a n cap W hheld) ?_
  rintro w1 ⟨nq, rfl⟩
  have bX := Boxed.new (W.drewN nq) 72 (.slice a n cap)
  have hB1 : Below W.heap.size W ((W.drewN nq).alloc (.cells #[.slice a n cap] 72)) := (below_drewN (Below.refl _ W) nq).alloc (Nat.le_refl _) _
  have hseq := valuesI_full W.heap.size ((W.drewN nq).alloc (.cells #[.slice a n cap] 72)).heap.size (.slice a n cap) xs ((W.drewN nq).alloc (.cells #[.slice a n cap] 72)) (by simp) (Nat.le_refl _) hlen bX.cell (by
    rcases hI.below hB1 (Nat.le_refl _) with h | ⟨b, off, cap, e, hb, hc⟩
    · exact .inl h
    · exact .inr ⟨b, off, cap, e, by simp; omega, hc⟩)
  have hcop := copiedI_any 125 _ xs (fun _ => False) _ (enters_of Tryz.func125 (by kernel_rfl) rfl) hseq (fun k h => h.elim) hlen
  refine hcop.mono ?_
  rintro e W1 ⟨v, rfl, hrow, hB⟩
  exact ⟨v, rfl, row_base hrow (by simp), hB1.trans (hB.mono (by simp)), by have := hB.size; simp at this; omega⟩

end Go.Proofs.YtcjblafohfiiaabGreat.Tx

/-
  sameInts, upTo, and the closure that collects.
-/
set_option linter.unusedVariables false
namespace Go.Proofs.YtcjblafohfiiaabGreat.Tx
open Go.RowKit Go.Shelf

set_option maxHeartbeats 2000000 in
theorem sameInts_some (b off cap b' off' cap' : Nat) (xs : List ByteArray) (w : World) (hlen : xs.length < 1000000)
    (h1 : ∀ (j : Nat) x, xs[j]? = some x → w.cell? ⟨b, off + j, none⟩ = some (.string x)) (h2 : ∀ (j : Nat) x, xs[j]? = some x → w.cell? ⟨b', off' + j, none⟩ = some (.string x)) :
    Calls Tryz.prog 50 #[.slice (some ⟨b, off, none⟩) xs.length cap, .slice (some ⟨b', off', none⟩) xs.length cap'] w fun e w' => e = .returned (.bool true) ∧ ∃ nq, w' = w.drewN nq := by
  have H1 : Hid (∀ (j : Nat) x, xs[j]? = some x → w.cell? ⟨b, off + j, none⟩ = some (.string x)) := h1
  have H2 : Hid (∀ (j : Nat) x, xs[j]? = some x → w.cell? ⟨b', off' + j, none⟩ = some (.string x)) := h2
  clear h1 h2
  go_enter Tryz.func50, Tryz.ntmps50
  go_wp2
  go_loopw [5] (fun i wr => ∃ k nq : Nat, k ≤ xs.length ∧ i = .int .i64 k ∧ wr = w.drewN nq) (fun i _ => xs.length - (intOf i).toNat)
  case atStart => exact ⟨0, 0, Nat.zero_le _, rfl, rfl⟩
  case round =>
    obtain ⟨k, nq, hk, rfl, rfl⟩ := hrel
    by_cases hlt : k < xs.length
    · obtain ⟨x, hx⟩ : ∃ x, xs[k]? = some x := ⟨_, List.getElem?_eq_getElem hlt⟩
      have c1 := H1.out k x hx
      have c2 := H2.out k x hx
      have hki : (k : Int) < xs.length := by omega
      clear hx
      go_wp2_with fail
      go_quiet (fail)
      go_wp2
      go_roundw
      case rel => exact ⟨k + 1, _, hlt, by go_num, rfl⟩
      case measure => simp [intOf]; omega
    · obtain rfl : k = xs.length := by omega
      go_wp2
      go_ret
      exact ⟨rfl, nq, rfl⟩

set_option maxHeartbeats 1000000 in
theorem sameInts_none (a a' : Option Addr) (cap cap' : Nat) (w : World) :
    Calls Tryz.prog 50 #[.slice a 0 cap, .slice a' 0 cap'] w fun e w' => e = .returned (.bool true) ∧ ∃ nq, w' = w.drewN nq := by
  go_enter Tryz.func50, Tryz.ntmps50
  go_wp2
  refine wp_loop_rounds 1 ?_
  rw [rounds_succ]
  go_wp2
  go_ret
  exact ⟨rfl, 0, rfl⟩

/-- Two slices that hold one list. -/
theorem sameInts_any (v v' : Value) (n0 n1 : Nat) (xs : List ByteArray) (w : World) (hlen : xs.length < 1000000) (h1 : SliceIs n0 w v xs) (h2 : SliceIs n1 w v' xs) :
    Calls Tryz.prog 50 #[v, v'] w fun e w' => e = .returned (.bool true) ∧ ∃ nq, w' = w.drewN nq := by
  rcases h1 with ⟨rfl, rfl⟩ | ⟨b, off, cap, rfl, _, hc⟩
  · rcases h2 with ⟨rfl, _⟩ | ⟨b', off', cap', rfl, _, _⟩
    · exact sameInts_none _ _ _ _ w
    · exact sameInts_none _ _ _ _ w
  · rcases h2 with ⟨rfl, rfl⟩ | ⟨b', off', cap', rfl, _, hc'⟩
    · exact sameInts_none _ _ _ _ w
    · exact sameInts_some b off cap b' off' cap' xs w hlen hc hc'

end Go.Proofs.YtcjblafohfiiaabGreat.Tx

/-
  The closure that collects what an iterator gives.
-/
set_option linter.unusedVariables false
namespace Go.Proofs.YtcjblafohfiiaabGreat.Tx
open Go.RowKit Go.Shelf

/-- The closure's variables: ok is true; ended; the list l; stop. K: blocks that are left alone. -/
structure Col (base okB enB lB stB : Nat) (stop : Int) (K : List Nat) (pre : List ByteArray) (ended : Bool) (v : Value) (W : World) : Prop where
  ok : Boxed W okB 4 (.bool true)
  en : Boxed W enB 4 (.bool ended)
  st : Boxed W stB 3 (.int .i64 stop)
  li : Boxed W lB 72 v
  row : W.ownsRow base 9 1 v pre.length (strs pre)
  apart : ∀ k, v.ownBlock = some k → k ∉ stB :: K
  inK : ∀ k, k ∈ K → k < W.heap.size ∧ k ≠ okB ∧ k ≠ enB ∧ k ≠ lB
  ne : okB ≠ enB

set_option maxHeartbeats 2000000 in
theorem collect_core (base okB enB lB stB : Nat) (stop : Int) (x : ByteArray) (K : List Nat) (pre : List ByteArray) (v : Value) (W : World) (h : Col base okB enB lB stB stop K pre false v W) (hbase : base ≤ W.heap.size) (hlen : pre.length < 1000000) (en' : Bool) (hen : ((pre.length : Int) + 1 == stop) = en') :
    Calls Tryz.prog 84 (#[.string x] ++ #[.pointer (some ⟨okB, 0, none⟩), .pointer (some ⟨enB, 0, none⟩), .pointer (some ⟨lB, 0, none⟩), .pointer (some ⟨stB, 0, none⟩)]) W fun e W' => e = .returned (.bool (!en')) ∧
      ∃ v' w1, W' = (w1.setCell ⟨lB, 0, none⟩ v').setCell ⟨enB, 0, none⟩ (.bool en') ∧ w1.ownsRow base 9 1 v' (pre.length + 1) (strs pre ++ [.string x]) ∧
        ((W.setCell ⟨okB, 0, none⟩ (.bool true)).alloc (.cells #[.string x] 9)).grownBy w1 v.ownBlock ∧ (v'.ownBlock = v.ownBlock ∨ v'.ownBlock = some (W.heap.size + 1)) := by
  obtain ⟨hok, hen0, hst, hli, hrow, hap, hK, hne⟩ := h
  have o_l : okB ≠ lB := boxed_ne hok hli (by decide)
  have o_s : okB ≠ stB := boxed_ne hok hst (by decide)
  have e_l : enB ≠ lB := boxed_ne hen0 hli (by decide)
  have e_s : enB ≠ stB := boxed_ne hen0 hst (by decide)
  have l_s : lB ≠ stB := boxed_ne hli hst (by decide)
  have t1 : Touch [okB] W (W.setCell ⟨okB, 0, none⟩ (.bool true)) := Touch.setCell _ _ _ (by simp)
  have hok1 : Boxed (W.setCell ⟨okB, 0, none⟩ (.bool true)) okB 4 (.bool true) := hok.set _
  have hen1 := box_touch hen0 t1 (by simp [hne.symm])
  have hst1 := box_touch hst t1 (by simp [o_s.symm])
  have hli1 := box_touch hli t1 (by simp [o_l.symm])
  have hrow1 : (W.setCell ⟨okB, 0, none⟩ (.bool true)).ownsRow base 9 1 v pre.length (strs pre) := ownsRow_setOther hrow (hok.not_row (by decide) hrow) _
  have hsz1 : (W.setCell ⟨okB, 0, none⟩ (.bool true)).heap.size = W.heap.size := by simp [World.setCell]
  have c_ok := hok.cell
  have f_ok := hok.frozen
  have c_en := hen0.cell
  have c_li1 := hli1.cell
  obtain ⟨i0, hi, hz0, hz1, hz2⟩ := info_parts Tryz.infoStr
  have nr_ok := hok1.not_row (by decide) hrow1
  have nr_en := hen1.not_row (by decide) hrow1
  have nr_li := hli1.not_row (by decide) hrow1
  have nr_st : some stB ≠ v.ownBlock := fun e => hap stB e.symm (by simp)
  clear hok hen0 hst hli
  have Hsz1 : Hid ((W.setCell ⟨okB, 0, none⟩ (.bool true)).heap.size = W.heap.size) := hsz1
  clear hsz1
  simp only [List.append_toArray, List.nil_append, List.cons_append]
  go_enter Tryz.func84, Tryz.ntmps84
  go_wp2_with (at_builtin; refine wpList_append_own_at _ rfl _ _ 72 rfl base 9 i0 (.string ⟨#[]⟩) 1 16 Tryz.underlying72 hi hz0 hz1 hz2 rfl (by decide) _ _ _ rfl (hrow1.alloc _) ⟨W.heap.size, 0, none⟩ 1 1 [.string x] rfl rfl ?_ (by simp [Value.oneCell']) (by simp [maxLen]; omega) (by omega) (by simp; omega) ?_)
  · have := cell_one_new (W.setCell ⟨okB, 0, none⟩ (.bool true)) (.string x) 9
    rw [Hsz1.out] at this
    exact this
  intro v' w1 hown' hgrow _ hat
  obtain ⟨g', cap', rfl⟩ := ownsRow_succ hown'
  have b_ok := (hok1.alloc (.cells #[.string x] 9)).kept hgrow nr_ok
  have b_en := (hen1.alloc (.cells #[.string x] 9)).kept hgrow nr_en
  have b_li := (hli1.alloc (.cells #[.string x] 9)).kept hgrow nr_li
  have b_st := (hst1.alloc (.cells #[.string x] 9)).kept hgrow nr_st
  have a_li := b_li.set (.slice (some ⟨g', 0, none⟩) (pre.length + 1) cap')
  have a_ok := b_ok.other o_l (.slice (some ⟨g', 0, none⟩) (pre.length + 1) cap')
  have a_en := b_en.other e_l (.slice (some ⟨g', 0, none⟩) (pre.length + 1) cap')
  have a_st := b_st.other l_s.symm (.slice (some ⟨g', 0, none⟩) (pre.length + 1) cap')
  have z_li := a_li.other e_l.symm (.bool en')
  have z_ok := a_ok.other hne (.bool en')
  have z_en := a_en.set (.bool en')
  have c1 := b_li.cell
  have f1 := b_li.frozen
  have c2 := a_li.cell
  have c3 := a_st.cell
  have c4 := a_en.cell
  have f4 := a_en.frozen
  have c5 := z_ok.cell
  have c6 := z_en.cell
  have c7 := z_li.cell
  clear b_ok b_en b_li b_st a_li a_ok a_en a_st z_li z_ok z_en hok1 hen1 hst1 hli1
  have hbg : (pre.length : Int) + 1 < 1048576 := by omega
  have hbd : decide ((pre.length : Int) + 1 < 1048576) = true := by simpa using hbg
  cases en'
  · go_wp2
    go_ret
    exact ⟨rfl, _, w1, rfl, hown', hgrow, hat⟩
  · go_wp2
    go_ret
    exact ⟨rfl, _, w1, rfl, hown', hgrow, hat⟩

theorem collect_any (base okB enB lB stB : Nat) (stop : Int) (x : ByteArray) (K : List Nat) (pre : List ByteArray) (v : Value) (W : World) (h : Col base okB enB lB stB stop K pre false v W) (hbase : base ≤ W.heap.size) (hlen : pre.length < 1000000) (en' : Bool) (hen : ((pre.length : Int) + 1 == stop) = en') :
    Calls Tryz.prog 84 (#[.string x] ++ #[.pointer (some ⟨okB, 0, none⟩), .pointer (some ⟨enB, 0, none⟩), .pointer (some ⟨lB, 0, none⟩), .pointer (some ⟨stB, 0, none⟩)]) W fun e W' => e = .returned (.bool (!en')) ∧
      ∃ v', Col base okB enB lB stB stop K (pre ++ [x]) en' v' W' ∧ Touch ([okB, enB, lB] ++ v.ownBlock.toList) W W' := by
  refine (collect_core base okB enB lB stB stop x K pre v W h hbase hlen en' hen).mono ?_
  rintro e W' ⟨rfl, v', w1, rfl, hown, hgrow, hat⟩
  obtain ⟨hok, hen0, hst, hli, hrow, hap, hK, hne⟩ := h
  have o_l : okB ≠ lB := boxed_ne hok hli (by decide)
  have o_s : okB ≠ stB := boxed_ne hok hst (by decide)
  have e_l : enB ≠ lB := boxed_ne hen0 hli (by decide)
  have e_s : enB ≠ stB := boxed_ne hen0 hst (by decide)
  have l_s : lB ≠ stB := boxed_ne hli hst (by decide)
  have t1 : Touch [okB] W (W.setCell ⟨okB, 0, none⟩ (.bool true)) := Touch.setCell _ _ _ (by simp)
  have hok1 : Boxed (W.setCell ⟨okB, 0, none⟩ (.bool true)) okB 4 (.bool true) := hok.set _
  have hen1 := box_touch hen0 t1 (by simp [hne.symm])
  have hst1 := box_touch hst t1 (by simp [o_s.symm])
  have hli1 := box_touch hli t1 (by simp [o_l.symm])
  have hrow1 : (W.setCell ⟨okB, 0, none⟩ (.bool true)).ownsRow base 9 1 v pre.length (strs pre) := ownsRow_setOther hrow (hok.not_row (by decide) hrow) _
  have nr_ok := hok1.not_row (by decide) hrow1
  have nr_en := hen1.not_row (by decide) hrow1
  have nr_li := hli1.not_row (by decide) hrow1
  have nr_st : some stB ≠ v.ownBlock := fun e => hap stB e.symm (by simp)
  have b_ok := (hok1.alloc (.cells #[.string x] 9)).kept hgrow nr_ok
  have b_en := (hen1.alloc (.cells #[.string x] 9)).kept hgrow nr_en
  have b_li := (hli1.alloc (.cells #[.string x] 9)).kept hgrow nr_li
  have b_st := (hst1.alloc (.cells #[.string x] 9)).kept hgrow nr_st
  have hT : Touch ([okB, enB, lB] ++ v.ownBlock.toList) W ((w1.setCell ⟨lB, 0, none⟩ v').setCell ⟨enB, 0, none⟩ (.bool en')) :=
    ((((Touch.setCell _ _ _ (by simp)).trans (Touch.alloc _ _ _)).trans (Touch.grown hgrow (fun k hk => by simp [hk]))).trans (Touch.setCell _ _ _ (by simp))).trans (Touch.setCell _ _ _ (by simp))
  refine ⟨rfl, v', ⟨(b_ok.other o_l v').other hne _, (b_en.other e_l v').set _, (b_st.other l_s.symm v').other e_s.symm _, (b_li.set v').other e_l.symm _, ?_, ?_, ?_, hne⟩, hT⟩
  · simp only [strs, List.length_append, List.length_cons, List.length_nil, Nat.zero_add, List.map_append, List.map_cons, List.map_nil]
    exact ownsRow_setOther (ownsRow_setOther hown (b_li.not_row (by decide) hown) _) ((b_en.other e_l v').not_row (by decide) (ownsRow_setOther hown (b_li.not_row (by decide) hown) _)) _
  · intro k hk
    rcases hat with e | e
    · exact hap k (e ▸ hk)
    · rw [e] at hk; cases hk
      intro hm
      rcases List.mem_cons.1 hm with rfl | hm
      · have := hst.lt; omega
      · have := (hK _ hm).1; omega
  · intro k hk
    have := hK k hk
    exact ⟨Nat.lt_of_lt_of_le this.1 hT.size, this.2⟩

/-- An iterator gone through by the closure. -/
theorem walk_col (fz Bl okB enB lB stB : Nat) (stop : Int) (xs : List ByteArray) (W : World) (hw : Walked Tryz.prog fz Bl xs W) (hlen : xs.length < 1000000)
    (hok : Boxed W okB 4 (.bool true)) (hen : Boxed W enB 4 (.bool false)) (hst : Boxed W stB 3 (.int .i64 stop)) (hli : Boxed W lB 72 (.slice none 0 0)) (hne : okB ≠ enB) :
    Calls Tryz.prog fz #[.func (.func 84) #[] #[.pointer (some ⟨okB, 0, none⟩), .pointer (some ⟨enB, 0, none⟩), .pointer (some ⟨lB, 0, none⟩), .pointer (some ⟨stB, 0, none⟩)], .pointer (some ⟨Bl, 0, none⟩)] W fun e W' => (∃ r, e = .returned r) ∧
      ∃ v, Boxed W' okB 4 (.bool true) ∧ Boxed W' lB 72 v ∧ Boxed W' stB 3 (.int .i64 stop) ∧ W'.ownsRow W.heap.size 9 1 v (cutTo xs.length stop) (strs (xs.take (cutTo xs.length stop))) ∧ Touch [okB, enB, lB] W W' := by
  have hK0 : ∀ g, W.heap.size ≤ g → g ≠ okB ∧ g ≠ enB ∧ g ≠ lB := fun g hg => ⟨by have := hok.lt; omega, by have := hen.lt; omega, by have := hli.lt; omega⟩
  refine (hw 84 _ (fun g pre W2 => W.heap.size ≤ g ∧ ¬ (1 ≤ stop ∧ stop ≤ pre.length) ∧ Touch [okB, enB, lB] W W2 ∧ ∃ v, Col W.heap.size okB enB lB stB stop [g] pre false v W2)
    (fun g pre W2 => (pre.length : Int) = stop ∧ 1 ≤ stop ∧ Touch [okB, enB, lB] W W2 ∧ ∃ v, Col W.heap.size okB enB lB stB stop [g] pre true v W2) (enters_of Tryz.func84 (by kernel_rfl) rfl) ?_ ?_).mono ?_
  · intro g W1 hB hg hg1
    have hT : Touch [okB, enB, lB] W W1 := Touch.of_below hB _
    have kb : ∀ {B t v}, Boxed W B t v → Boxed W1 B t v := fun h => (hB.block _ h.lt).trans h
    refine ⟨hg, by simp; omega, hT, _, kb hok, kb hen, kb hst, kb hli, World.ownsRow_nil _ _ _ _, by simp [Value.ownBlock], ?_, hne⟩
    intro k hk
    simp only [List.mem_singleton] at hk
    subst hk
    exact ⟨hg1, hK0 _ hg⟩
  · rintro g pre x W2 ⟨hg, hns, hT, v, hC⟩ hpre
    have hpl : pre.length < 1000000 := by have := hpre.length_le; simp at this; omega
    refine (collect_any W.heap.size okB enB lB stB stop x [g] pre v W2 hC hT.size hpl ((pre.length : Int) + 1 == stop) rfl).mono ?_
    rintro e W3 ⟨rfl, v', hC', hT'⟩
    have hT2 : Touch [okB, enB, lB] W W3 := hT.then hT' (fun k hk => by
      rcases List.mem_append.1 hk with h | h
      · exact .inl h
      · exact .inr (hC.row.lt k (by simpa using h)).1)
    refine ⟨hT'.block g (hC.inK g (by simp)).1 ?_, ?_⟩
    · intro hm
      rcases List.mem_append.1 hm with h | h
      · have := (hC.inK g (by simp)).2; simp at h; omega
      · exact hC.apart g (by simpa using h) (by simp)
    · by_cases hs : (pre.length : Int) + 1 = stop
      · refine .inr ⟨by simp [hs], by simp; omega, by omega, hT2, v', ?_⟩
        have e1 : ((pre.length : Int) + 1 == stop) = true := by simpa using hs
        rw [e1] at hC'; exact hC'
      · refine .inl ⟨by simp [hs], hg, by simp; omega, hT2, v', ?_⟩
        have e1 : ((pre.length : Int) + 1 == stop) = false := by simpa using hs
        rw [e1] at hC'; exact hC'
  · rintro e W' ⟨hr, g, ⟨hg, hns, hT, v, hC⟩ | ⟨pre, hpre, hl, h1, hT, v, hC⟩⟩
    · have hc : cutTo xs.length stop = xs.length := by unfold cutTo; rw [if_neg (by omega)]
      refine ⟨hr, v, hC.ok, hC.li, hC.st, ?_, hT⟩
      rw [hc, List.take_length]; exact hC.row
    · have hle := hpre.length_le
      have hc : cutTo xs.length stop = pre.length := by
        unfold cutTo
        split
        · omega
        · omega
      refine ⟨hr, v, hC.ok, hC.li, hC.st, ?_, hT⟩
      rw [hc, ← List.prefix_iff_eq_take.1 hpre]; exact hC.row

end Go.Proofs.YtcjblafohfiiaabGreat.Tx

/-
  ints: an iterator gone through twice.
-/
set_option linter.unusedVariables false
namespace Go.Proofs.YtcjblafohfiiaabGreat.Tx
open Go.RowKit Go.Shelf

theorem slice_of_row {W : World} {base n0 : Nat} {v : Value} {n : Nat} {zs : List ByteArray} (h : W.ownsRow base 9 1 v n (strs zs)) (hn : n = zs.length) (hn0 : W.heap.size ≤ n0) : SliceIs n0 W v zs := by
  subst hn
  rcases h.2 with ⟨rfl, h0⟩ | ⟨g, cap, cur, rfl, hb, hg, hn, hm, hs, ht⟩
  · exact .inl ⟨rfl, List.eq_nil_of_length_eq_zero h0⟩
  · refine .inr ⟨g, 0, cap, rfl, by have := heap_lt hg; omega, fun j x hj => ?_⟩
    have hjl := (List.getElem?_eq_some_iff.1 hj).1
    have h1 : (strs zs)[j]? = some (.string x) := by simp [hj]
    rw [Nat.zero_add, cell_of_row W g j cur 9 (0, 0) hg, ← h1, ← ht, List.getElem?_take, if_pos (by omega), Array.getElem?_toList]

theorem seq_not_nil (Bl : Nat) (W : World) : (binOp BinOp.eql 105 (.func (.func 108) #[] #[.pointer (some ⟨Bl, 0, none⟩)]) .nilFunc).run Tryz.prog W = .ok (.bool false) W := by
  kernel_rfl

set_option maxRecDepth 100000 in
set_option maxHeartbeats 4000000 in
theorem ints_any (Bl : Nat) (stop : Int) (xs : List ByteArray) (w : World) (hlen : xs.length < 1000000) (hw : ∀ W, Below w.heap.size w W → Walked Tryz.prog 108 Bl xs W) :
    Calls Tryz.prog 52 #[.func (.func 108) #[] #[.pointer (some ⟨Bl, 0, none⟩)], .int .i64 stop] w fun e w' =>
      ∃ v, e = .returned (.tuple #[v, .bool true]) ∧ w'.ownsRow w.heap.size 9 1 v (cutTo xs.length stop) (strs (xs.take (cutTo xs.length stop))) ∧ Below w.heap.size w w' := by
  have hnf : ∀ W, (binOp BinOp.eql 105 (.func (.func 108) #[] #[.pointer (some ⟨Bl, 0, none⟩)]) .nilFunc).run Tryz.prog W = .ok (.bool false) W := seq_not_nil Bl
  go_enter Tryz.func52, Tryz.ntmps52
  go_wp2
  refine wp_loop_rounds 3 ?_
  rw [rounds_succ]
  go_wp2_with fail
  have bS0 := Boxed.new w 3 (.int .i64 stop)
  have bL0 := Boxed.new (w.alloc (.cells #[.int .i64 stop] 3)) 72 (.slice none 0 0)
  have bO0 := Boxed.new ((w.alloc (.cells #[.int .i64 stop] 3)).alloc (.cells #[.slice none 0 0] 72)) 4 (.bool true)
  have bE0 := Boxed.new (((w.alloc (.cells #[.int .i64 stop] 3)).alloc (.cells #[.slice none 0 0] 72)).alloc (.cells #[.bool true] 4)) 4 (.bool false)
  simp only [World.size_alloc] at bL0 bO0 bE0
  have bS := ((bS0.alloc (.cells #[.slice none 0 0] 72)).alloc (.cells #[.bool true] 4)).alloc (.cells #[.bool false] 4)
  have bL := (bL0.alloc (.cells #[.bool true] 4)).alloc (.cells #[.bool false] 4)
  have bO := bO0.alloc (.cells #[.bool false] 4)
  have hBa : Below w.heap.size w ((((w.alloc (.cells #[.int .i64 stop] 3)).alloc (.cells #[.slice none 0 0] 72)).alloc (.cells #[.bool true] 4)).alloc (.cells #[.bool false] 4)) :=
    ((((Below.refl _ w).alloc (Nat.le_refl _) _).alloc (by simp) _).alloc (by simp; omega) _).alloc (by simp; omega) _
  clear bS0 bL0 bO0
  have hc1 := walk_col 108 Bl _ _ _ _ stop xs _ (hw _ hBa) hlen bO bE0 bS bL (by omega)
  refine hc1.mono ?_
  rintro e w1 ⟨⟨r, rfl⟩, v1, ho1, hl1, hs1, hr1, ht1⟩
  have hB1 : Below w.heap.size w w1 := hBa.trans (ht1.below hBa.size (fun k hk => by simp at hk; omega))
  have hz1 : w.heap.size + 4 ≤ w1.heap.size := by have := ht1.size; simp at this; omega
  replace hr1 := row_base hr1 (base' := w.heap.size + 4) (by simp)
  clear hc1 bS bL bO bE0 hBa ht1
  have c1 := ho1.cell
  have f1 := ho1.frozen
  go_wp2
  rw [rounds_succ]
  have ho2 := ho1.set (.bool true)
  have hl2 := hl1.other (show w.heap.size + 1 ≠ w.heap.size + 2 by omega) (.bool true)
  have hs2 := hs1.other (show w.heap.size ≠ w.heap.size + 2 by omega) (.bool true)
  have hr2 := ownsRow_setOther hr1 (a := ⟨w.heap.size + 2, 0, none⟩) (ho1.not_row (by decide) hr1) (.bool true)
  have hB2 := hB1.setCell (p := ⟨w.heap.size + 2, 0, none⟩) (by show w.heap.size ≤ w.heap.size + 2; omega) (.bool true)
  have hz2 : (w1.setCell ⟨w.heap.size + 2, 0, none⟩ (.bool true)).heap.size = w1.heap.size := by simp [World.setCell]
  generalize hw2 : w1.setCell ⟨w.heap.size + 2, 0, none⟩ (.bool true) = w2 at ho2 hl2 hs2 hr2 hB2 hz2 ⊢
  have hz2' : w.heap.size + 4 ≤ w2.heap.size := by omega
  clear hw2 ho1 hl1 hs1 hr1 hB1 c1 f1 hz1 hz2
  have c2 := hl2.cell
  have f2 := hl2.frozen
  go_wp2_with fail
  have ho3 := (ho2.other (show w.heap.size + 2 ≠ w.heap.size + 1 by omega) (.slice none 0 0)).alloc (.cells #[.bool false] 4)
  have hl3 := (hl2.set (.slice none 0 0)).alloc (.cells #[.bool false] 4)
  have hs3 := (hs2.other (show w.heap.size ≠ w.heap.size + 1 by omega) (.slice none 0 0)).alloc (.cells #[.bool false] 4)
  have hr3 := (ownsRow_setOther hr2 (a := ⟨w.heap.size + 1, 0, none⟩) (hl2.not_row (by decide) hr2) (.slice none 0 0)).alloc (.cells #[.bool false] 4)
  have hB3 := (hB2.setCell (p := ⟨w.heap.size + 1, 0, none⟩) (by show w.heap.size ≤ w.heap.size + 1; omega) (.slice none 0 0)).alloc (by simp [World.setCell]; omega) (.cells #[.bool false] 4)
  have he3 := Boxed.new (w2.setCell ⟨w.heap.size + 1, 0, none⟩ (.slice none 0 0)) 4 (.bool false)
  have hz3 : (w2.setCell ⟨w.heap.size + 1, 0, none⟩ (.slice none 0 0)).heap.size = w2.heap.size := by simp [World.setCell]
  rw [hz3] at he3
  have hz3' : ((w2.setCell ⟨w.heap.size + 1, 0, none⟩ (.slice none 0 0)).alloc (.cells #[.bool false] 4)).heap.size = w2.heap.size + 1 := by simp [hz3]
  generalize hw3 : (w2.setCell ⟨w.heap.size + 1, 0, none⟩ (.slice none 0 0)).alloc (.cells #[.bool false] 4) = w3 at ho3 hl3 hs3 hr3 hB3 he3 hz3' ⊢
  have hc3 := walk_col 108 Bl _ _ _ _ stop xs _ (hw _ hB3) hlen ho3 he3 hs3 hl3 (by omega)
  have hrow3 := hr3
  refine hc3.mono ?_
  rintro e w4 ⟨⟨r, rfl⟩, v4, ho4, hl4, hs4, hr4, ht4⟩
  have hB4 : Below w.heap.size w w4 := hB3.trans (ht4.below hB3.size (fun k hk => by simp at hk; omega))
  have hr4' : w4.ownsRow (w.heap.size + 4) 9 1 v1 (cutTo xs.length stop) (strs (xs.take (cutTo xs.length stop))) := row_keep2 hr3 ht4 (fun k hk hm => by
    have h1 := hr3.lt k hk
    simp at hm
    rcases hm with h | h | h
    · omega
    · subst h
      exact (he3.not_row (by decide) hr3) hk.symm
    · omega)
  replace hr4 := row_base hr4 (base' := w.heap.size) (by omega)
  have hcl : cutTo xs.length stop = (xs.take (cutTo xs.length stop)).length := by
    rw [List.length_take]; have : cutTo xs.length stop ≤ xs.length := by unfold cutTo; split <;> omega
    omega
  have hz4 : w.heap.size + 4 ≤ w4.heap.size := by have := ht4.size; omega
  have hsame := sameInts_any v1 v4 w4.heap.size w4.heap.size _ w4 (by have := (List.take_prefix (cutTo xs.length stop) xs).length_le; omega) (slice_of_row hr4' hcl (Nat.le_refl _)) (slice_of_row hr4 hcl (Nat.le_refl _))
  clear hc3 hr3 ho3 hl3 hs3 hB3 he3 hz3' hw3 hz3 ht4 ho2 hl2 hs2 hr2 hB2 c2 f2 hz2' hrow3 hr4'
  have c4 := ho4.cell
  have f4 := ho4.frozen
  have c5 := hl4.cell
  have Hcl : Hid (cutTo xs.length stop = (xs.take (cutTo xs.length stop)).length) := hcl
  clear hcl
  go_wp2_with fail
  refine hsame.mono ?_
  rintro e w5 ⟨rfl, nq, rfl⟩
  have hl5 := hl4.other (show w.heap.size + 1 ≠ w.heap.size + 2 by omega) (.bool true)
  have ho5 := ho4.set (.bool true)
  have hr5 := ownsRow_setOther hr4 (a := ⟨w.heap.size + 2, 0, none⟩) (ho4.not_row (by decide) hr4) (.bool true)
  have hB5 := hB4.setCell (p := ⟨w.heap.size + 2, 0, none⟩) (by show w.heap.size ≤ w.heap.size + 2; omega) (.bool true)
  have c6 := hl5.cell
  have c7 := ho5.cell
  clear hl4 ho4 hs4 hsame
  go_wp2
  rw [rounds_succ]
  go_wp2_with fail
  go_quiet (fail)
  go_wp2
  go_ret2
  exact ⟨_, rfl, hr5, below_drewN ((below_drewN hB4 _).setCell (p := ⟨w.heap.size + 1 + 1, 0, none⟩) (by show w.heap.size ≤ w.heap.size + 1 + 1; omega) _) _⟩

end Go.Proofs.YtcjblafohfiiaabGreat.Tx

/-
  The document's own answer: Numbers.
-/
set_option linter.unusedVariables false
namespace Go.Proofs.YtcjblafohfiiaabGreat.Tx
open Go.RowKit

/-- The document's list in block b. -/
def Num (W : World) (base b : Nat) (most : Int) (xs : List ByteArray) (F : List Nat) : Prop :=
  ∃ v : Value, W.heap[b]? = some (.cells #[v, .int .i64 most] 79 (0, 0)) ∧ base ≤ b ∧ W.ownsRow base 9 1 v xs.length (strs xs) ∧ F = b :: v.ownBlock.toList

theorem Num.mem {W : World} {base b : Nat} {most : Int} {xs : List ByteArray} {F : List Nat} (h : Num W base b most xs F) : ∀ k, k ∈ F → base ≤ k ∧ k < W.heap.size := by
  obtain ⟨v, hh, hb, hr, rfl⟩ := h
  intro k hk
  rcases List.mem_cons.1 hk with rfl | hk
  · exact ⟨hb, heap_lt hh⟩
  · exact hr.lt k (by simpa using hk)

theorem Num.keep {W W' : World} {base b : Nat} {most : Int} {xs : List ByteArray} {F G : List Nat} (h : Num W base b most xs F) (ht : Touch G W W') (ha : Apart F G) : Num W' base b most xs F := by
  obtain ⟨v, hh, hb, hr, rfl⟩ := h
  refine ⟨v, ?_, hb, row_keep2 hr ht (fun k hk => ha k (by simp [hk])), rfl⟩
  rw [ht.block b (heap_lt hh) (ha b (by simp))]; exact hh

theorem Num.base {W : World} {base base' b : Nat} {most : Int} {xs : List ByteArray} {F : List Nat} (h : Num W base b most xs F) (hle : base' ≤ base) : Num W base' b most xs F := by
  obtain ⟨v, hh, hb, hr, rfl⟩ := h
  exact ⟨v, hh, by omega, row_base hr hle, rfl⟩

theorem row_cell {w : World} {base n e : Nat} {v : Value} {zs : List ByteArray} (h : w.ownsRow base e 1 v n (strs zs)) (j : Nat) (x : ByteArray) (hj : zs[j]? = some x) : ∃ g cap, v = .slice (some ⟨g, 0, none⟩) n cap ∧ w.cell? ⟨g, j, none⟩ = some (.string x) := by
  have hjl := (List.getElem?_eq_some_iff.1 hj).1
  have hl : zs.length = n := by simpa using h.1
  rcases h.2 with ⟨rfl, h0⟩ | ⟨g, cap, cur, rfl, _⟩
  · omega
  · refine ⟨g, cap, rfl, ?_⟩
    rw [h.cellAt _ (by omega)]; simp [hj]

set_option maxHeartbeats 1000000 in
theorem rfirst_none (b base : Nat) (m : Int) (F : List Nat) (w : World) (hs : Num w base b m [] F) :
    Calls Tryz.prog 47 #[.pointer (some ⟨b, 0, none⟩)] w fun e w' => e = .returned (.tuple #[.string ⟨#[]⟩, .bool false]) ∧ w = w' := by
  obtain ⟨v, hh, hb, hr, rfl⟩ := hs
  have hc0 := heap_cell hh 0
  simp only [List.getElem?_toArray, List.getElem?_cons_zero] at hc0
  obtain ⟨va, vc, rfl⟩ := row_slice hr
  clear hh
  go_enter Tryz.func47, Tryz.ntmps47
  go_wp2
  go_ret2
  exact ⟨rfl, rfl⟩

set_option maxHeartbeats 2000000 in
theorem rfirst_core (b base : Nat) (m : Int) (x : ByteArray) (v : Value) (xs : List ByteArray) (w : World) (hh : w.heap[b]? = some (.cells #[v, .int .i64 m] 79 (0, 0))) (hr : w.ownsRow base 9 1 v (x :: xs).length (strs (x :: xs))) (hlen : xs.length < 1000000) :
    Calls Tryz.prog 47 #[.pointer (some ⟨b, 0, none⟩)] w fun e w' => e = .returned (.tuple #[.string x, .bool true]) ∧
      ∃ v' w1, w' = w1.setCell ⟨b, 0, none⟩ v' ∧ w1.ownsRow w.heap.size 9 1 v' xs.length (strs xs) ∧ Touch [] w w1 := by
  have hc0 := heap_cell hh 0
  simp only [List.getElem?_toArray, List.getElem?_cons_zero] at hc0
  have hbl := heap_lt hh
  have Hh : Hid (w.heap[b]? = some (.cells #[v, .int .i64 m] 79 (0, 0))) := hh
  clear hh
  obtain ⟨i0, hi, hz0, hz1, hz2⟩ := info_parts Tryz.infoStr
  obtain ⟨g, cap, rfl, hcx⟩ := row_cell hr 0 x rfl
  have Hr : Hid (∀ (j : Nat) y, xs[j]? = some y → w.cell? ⟨g, j + 1, none⟩ = some (.string y)) := fun j y hj => by
    obtain ⟨g2, cap2, e2, h2⟩ := row_cell hr (j + 1) y (by simpa using hj)
    simp only [Value.slice.injEq, Option.some.injEq, Addr.mk.injEq, true_and, and_true] at e2
    obtain ⟨rfl, rfl⟩ := e2
    exact h2
  clear hr
  have hgl : g < w.heap.size := World.block_lt_of_cell? _ _ hcx
  simp only [List.length_cons] at Hh hc0 ⊢
  have hn0 : ((xs.length : Int) + 1 == 0) = false := by simp; omega
  go_enter Tryz.func47, Tryz.ntmps47
  go_wp2
  go_loopw [5, 6] (fun l i wr => ∃ k : Nat, k ≤ xs.length ∧ i = .int .i64 ((k : Int) + 1) ∧ wr.ownsRow w.heap.size 9 1 l k (strs (xs.take k)) ∧ Touch [] w wr) (fun _ i _ => xs.length + 1 - (intOf i).toNat)
  case atStart => exact ⟨0, Nat.zero_le _, rfl, World.ownsRow_nil _ _ _ _, Touch.refl _ _⟩
  case round =>
    obtain ⟨k, hk, rfl, hrow, hT⟩ := hrel
    obtain ⟨la, lc, hl⟩ := row_slice hrow
    subst hl
    have hhr : wr.heap[b]? = some (.cells #[.slice (some ⟨g, 0, none⟩) (xs.length + 1) cap, .int .i64 m] 79 (0, 0)) := (hT.block b hbl (by simp)).trans Hh.out
    have c0 := heap_cell hhr 0
    have f0 := heap_frozen hhr 0
    simp only [List.getElem?_toArray, List.getElem?_cons_zero] at c0
    clear hhr
    by_cases hlt : k < xs.length
    · obtain ⟨y, hy⟩ : ∃ y, xs[k]? = some y := ⟨_, List.getElem?_eq_getElem hlt⟩
      have hcy' : wr.cell? ⟨g, k + 1, none⟩ = some (.string y) := (World.cell?_of_block (w := w) (hT.block g hgl (by simp))).trans (Hr.out k y hy)
      have hki : (k : Int) + 1 < (xs.length : Int) + 1 := by omega
      generalize hys : strs (xs.take k) = ys at hrow
      have Hy : Hid (ys ++ [.string y] = strs (xs.take (k + 1))) := by
        show _ = _
        rw [← hys, List.take_add_one, hy]; simp
      clear hys hy
      go_wp2_with (at_builtin; refine wpList_append_own_at _ rfl _ _ 72 rfl w.heap.size 9 i0 (.string ⟨#[]⟩) 1 16 Tryz.underlying72 hi hz0 hz1 hz2 rfl (by decide) _ _ _ rfl (hrow.alloc _) ⟨wr.heap.size, 0, none⟩ 1 1 [.string y] rfl rfl (cell_one_new _ _ _) (by simp [Value.oneCell']) (by simp [maxLen]; omega) (by omega) (by have := hT.size; simp; omega) ?_)
      intro v' w1 hown' hgrow _ hat
      rw [Hy.out] at hown'
      have hT1 : Touch [] w w1 := hT.then ((Touch.alloc (Value.slice la k lc).ownBlock.toList wr (.cells #[.string y] 9)).trans (Touch.grown hgrow (fun j hj => by rw [hj]; simp))) (fun j hj => .inr ((hrow.lt j (by simpa using hj)).1))
      go_wp2
      go_roundw
      case rel => exact ⟨k + 1, hlt, by go_num, hown', hT1⟩
      case measure => simp [intOf]; omega
    · obtain rfl : k = xs.length := by omega
      rw [List.take_length] at hrow
      have hki : ¬ (xs.length : Int) + 1 < (xs.length : Int) + 1 := by omega
      go_wp2
      go_ret2
      exact ⟨rfl, _, wr, rfl, hrow, hT⟩

theorem rfirst_any (b base : Nat) (m : Int) (x : ByteArray) (xs : List ByteArray) (F : List Nat) (w : World) (hs : Num w base b m (x :: xs) F) (hbase : base ≤ w.heap.size) (hlen : xs.length < 1000000) :
    Calls Tryz.prog 47 #[.pointer (some ⟨b, 0, none⟩)] w fun e w' => e = .returned (.tuple #[.string x, .bool true]) ∧ ∃ F', Num w' base b m xs F' ∧ Touch F w w' ∧ Newer w.heap.size F F' := by
  obtain ⟨v, hh, hb, hr, rfl⟩ := hs
  refine (rfirst_core b base m x v xs w hh hr hlen).mono ?_
  rintro e w' ⟨rfl, v', w1, rfl, hrow, hT⟩
  have hh1 : w1.heap[b]? = some (.cells #[v, .int .i64 m] 79 (0, 0)) := (hT.block b (heap_lt hh) (by simp)).trans hh
  refine ⟨rfl, b :: v'.ownBlock.toList, ⟨v', ?_, hb, ?_, rfl⟩, (hT.mono (fun k hk => by simp at hk)).trans (Touch.setCell _ _ _ (by simp)), ?_⟩
  · rw [heap_set hh1]; rfl
  · exact ownsRow_setOther (row_base hrow hbase) (row_ne hh1 hrow) _
  · intro k hk
    rcases List.mem_cons.1 hk with rfl | hk
    · exact .inl (by simp)
    · exact .inr (hrow.lt k (by simpa using hk)).1

end Go.Proofs.YtcjblafohfiiaabGreat.Tx

/-
  The queue of numbers: what each call does.
-/
set_option linter.unusedVariables false
namespace Go.Proofs.YtcjblafohfiiaabGreat.Tx
open Go.RowKit

theorem held_some (b g cap n f : Nat) (w : World) (h0 : w.cell? ⟨b, 0, none⟩ = some (.slice (some ⟨g, 0, none⟩) n cap)) (h1 : w.cell? ⟨b, 1, none⟩ = some (.int .i64 f)) (hf : f ≤ n) (hn : n ≤ cap) (hc : cap ≤ maxLen) :
    Calls Tryz.prog 83 #[.pointer (some ⟨b, 0, none⟩)] w fun e w' => e = .returned (.slice (some (if cap = f then ⟨g, 0, none⟩ else ⟨g, f, none⟩)) (n - f) (cap - f)) ∧ ∃ nq, w' = w.drewN nq := by
  unfold maxLen at hc
  go_enter Tryz.func83, Tryz.ntmps83
  go_wp2
  go_quiet (fail)
  go_wp2
  all_goals
    go_ret
    exact ⟨by simp [*], nq, rfl⟩

theorem held_nil (b : Nat) (w : World) (h0 : w.cell? ⟨b, 0, none⟩ = some (.slice none 0 0)) (h1 : w.cell? ⟨b, 1, none⟩ = some (.int .i64 0)) :
    Calls Tryz.prog 83 #[.pointer (some ⟨b, 0, none⟩)] w fun e w' => e = .returned (.slice none 0 0) ∧ ∃ nq, w' = w.drewN nq := by
  go_enter Tryz.func83, Tryz.ntmps83
  go_wp2
  go_quiet (fail)
  go_wp2
  go_ret
  exact ⟨rfl, nq, rfl⟩

/-- The queue in block b: xs from the first on, at most N things lie in its row, F its blocks. -/
def Que (W : World) (base b : Nat) (most : Int) (N : Nat) (xs : List ByteArray) (F : List Nat) : Prop :=
  ∃ (v : Value) (ts : List ByteArray) (f : Nat), W.heap[b]? = some (.cells #[v, .int .i64 f, .int .i64 most] 125 (0, 0)) ∧ base ≤ b ∧ W.ownsRow base 9 1 v ts.length (strs ts) ∧
    f ≤ ts.length ∧ ts.drop f = xs ∧ ts.length ≤ N ∧ F = b :: v.ownBlock.toList

theorem Que.mem {W : World} {base b N : Nat} {most : Int} {xs : List ByteArray} {F : List Nat} (h : Que W base b most N xs F) : ∀ k, k ∈ F → base ≤ k ∧ k < W.heap.size := by
  obtain ⟨v, ts, f, hh, hb, hr, _, _, _, rfl⟩ := h
  intro k hk
  rcases List.mem_cons.1 hk with rfl | hk
  · exact ⟨hb, heap_lt hh⟩
  · exact hr.lt k (by simpa using hk)

theorem Que.keep {W W' : World} {base b N : Nat} {most : Int} {xs : List ByteArray} {F G : List Nat} (h : Que W base b most N xs F) (ht : Touch G W W') (ha : Apart F G) : Que W' base b most N xs F := by
  obtain ⟨v, ts, f, hh, hb, hr, h1, h2, h3, rfl⟩ := h
  refine ⟨v, ts, f, ?_, hb, ?_, h1, h2, h3, rfl⟩
  · rw [ht.block b (heap_lt hh) (ha b (by simp))]; exact hh
  · refine ⟨hr.1, ?_⟩
    rcases hr.2 with hn | ⟨g, cap, cur, rfl, hb', hg, rest⟩
    · exact .inl hn
    · refine .inr ⟨g, cap, cur, rfl, hb', ?_, rest⟩
      rw [ht.block g (heap_lt hg) (ha g (by simp [Value.ownBlock]))]; exact hg

set_option maxHeartbeats 400000 in
theorem newqueue_any (m : Int) (hm : 0 ≤ m) (w : World) :
    Calls Tryz.prog 25 #[.int .i64 m] w fun e w' => e = .returned (.tuple #[.pointer (some ⟨w.heap.size, 0, none⟩), .int .i64 0]) ∧ w' = w.alloc (.cells #[.slice none 0 0, .int .i64 0, .int .i64 m] 125) := by
  have h1 : ¬ m < 0 := by omega
  go_enter Tryz.func25, Tryz.ntmps25
  go_wp2
  go_ret2
  exact ⟨rfl, rfl⟩

set_option maxHeartbeats 400000 in
theorem newintqueue_any (m : Int) (hm : 0 ≤ m) (w : World) :
    Calls Tryz.prog 13 #[.int .i64 m] w fun e w' => e = .returned (.tuple #[.pointer (some ⟨w.heap.size, 0, none⟩), .int .i64 0]) ∧ Que w' w.heap.size w.heap.size m 0 [] [w.heap.size] ∧ Touch [] w w' ∧ w'.heap.size = w.heap.size + 1 := by
  go_enter Tryz.func13, Tryz.ntmps13
  go_wp2_with fail
  refine (newqueue_any m hm _).mono ?_
  rintro e w' ⟨rfl, rfl⟩
  go_wp2
  go_ret2
  exact ⟨rfl, ⟨.slice none 0 0, [], 0, heap_alloc_new w _, Nat.le_refl _, World.ownsRow_nil _ _ _ _, Nat.le_refl _, rfl, Nat.le_refl _, rfl⟩, Touch.alloc _ _ _, by simp⟩

set_option maxHeartbeats 400000 in
theorem qlen_any (b f n base : Nat) (v : Value) (xs : List Value) (w : World) (h0 : w.cell? ⟨b, 0, none⟩ = some v) (h1 : w.cell? ⟨b, 1, none⟩ = some (.int .i64 f)) (hr : w.ownsRow base 9 1 v n xs) (hf : f ≤ n) :
    Calls Tryz.prog 51 #[.pointer (some ⟨b, 0, none⟩)] w fun e w' => e = .returned (.int .i64 ((n - f : Nat) : Int)) ∧ ∃ nq, w' = w.drewN nq := by
  rcases hr.2 with ⟨rfl, rfl⟩ | ⟨g, cap, cur, rfl, _, _, hn, hc, _⟩
  · obtain rfl : f = 0 := by omega
    clear hr
    go_enter Tryz.func51, Tryz.ntmps51
    go_wp2_with fail
    refine (held_nil b _ h0 h1).mono ?_
    rintro e w' ⟨rfl, nq, rfl⟩
    go_wp2
    go_ret
    exact ⟨rfl, nq, rfl⟩
  · clear hr
    have hh := held_some b g cap n f w h0 h1 hf hn hc
    generalize (if cap = f then (⟨g, 0, none⟩ : Addr) else ⟨g, f, none⟩) = a at hh
    go_enter Tryz.func51, Tryz.ntmps51
    go_wp2_with fail
    refine hh.mono ?_
    rintro e w' ⟨rfl, nq, rfl⟩
    go_wp2
    go_ret
    exact ⟨rfl, nq, rfl⟩

theorem put_core (b base f : Nat) (m : Int) (x : ByteArray) (v : Value) (ts : List ByteArray) (w : World) (hh : w.heap[b]? = some (.cells #[v, .int .i64 f, .int .i64 m] 125 (0, 0))) (hr : w.ownsRow base 9 1 v ts.length (strs ts))
    (hbase : base ≤ w.heap.size) (hlen : ts.length < 1000000) (hf : f ≤ ts.length) (hroom : ¬ (0 < m ∧ m ≤ ((ts.length - f : Nat) : Int))) :
    Calls Tryz.prog 44 #[.pointer (some ⟨b, 0, none⟩), .string x] w fun e w' => e = .returned (.int .i64 0) ∧
      ∃ nq v' w1, w' = w1.setCell ⟨b, 0, none⟩ v' ∧ w1.ownsRow base 9 1 v' (ts.length + 1) (strs ts ++ [.string x]) ∧ ((w.drewN nq).alloc (.cells #[.string x] 9)).grownBy w1 v.ownBlock ∧ (v'.ownBlock = v.ownBlock ∨ v'.ownBlock = some (w.heap.size + 1)) := by
  have hc0 := heap_cell hh 0
  have hc1 := heap_cell hh 1
  have hc2 := heap_cell hh 2
  simp only [List.getElem?_toArray, List.getElem?_cons_zero, List.getElem?_cons_succ] at hc0 hc1 hc2
  have hf0 := heap_frozen hh 0
  have hbl := heap_lt hh
  have hne : some b ≠ v.ownBlock := row_ne hh hr
  clear hh
  have hd : decide (0 < m ∧ m ≤ ((ts.length - f : Nat) : Int)) = false := by simpa using hroom
  obtain ⟨i0, hi, hz0, hz1, hz2⟩ := info_parts Tryz.infoStr
  have hql := fun n => qlen_any b f ts.length base v (strs ts) (w.drewN n) hc0 hc1 hr hf
  generalize ((ts.length - f : Nat) : Int) = L at hql hd
  go_enter Tryz.func44, Tryz.ntmps44
  go_wp2
  go_quiet (first | (go_at_call 51; exact Calls.quiet_of (hql _)) | (go_at_call 74; exact Calls.quiet_of_same (full_any _ _ _)))
  rw [hd]
  have hr2 : (w.drewN nq).ownsRow base 9 1 v ts.length (strs ts) := hr
  go_wp2_with (at_builtin; refine wpList_append_own_at _ rfl _ _ 72 rfl base 9 i0 (.string ⟨#[]⟩) 1 16 Tryz.underlying72 hi hz0 hz1 hz2 rfl (by decide) _ _ _ rfl (hr2.alloc _) ⟨w.heap.size, 0, none⟩ 1 1 [.string x] rfl rfl (cell_one_new _ _ _) (by simp [Value.oneCell']) (by simp [maxLen]; omega) (by omega) (by simp; omega) ?_)
  intro v' w1 hown' hgrow _ hat
  obtain ⟨g', cap', rfl⟩ := ownsRow_succ hown'
  have hcw : w1.cell? ⟨b, 0, none⟩ = some v := hgrow.cell (a := ⟨b, 0, none⟩) ((World.grownBy_alloc (w.drewN nq) _ none).cell (a := ⟨b, 0, none⟩) hc0 (by simp)) hne
  have hfw : w1.frozen? ⟨b, 0, none⟩ = false := by
    rw [World.frozen?_of_block (w := (w.drewN nq).alloc (.cells #[.string x] 9)) (hgrow.block b (by simp; omega) hne), World.frozen?_of_block (w := w.drewN nq) (Below.heap_alloc _ _ b hbl)]
    exact hf0
  go_wp2
  go_ret
  exact ⟨rfl, nq, _, w1, rfl, hown', hgrow, by simpa using hat⟩

theorem put_any (b base N : Nat) (m : Int) (x : ByteArray) (xs : List ByteArray) (F : List Nat) (w : World) (hs : Que w base b m N xs F) (hbase : base ≤ w.heap.size) (hlen : N < 1000000) (hroom : ¬ (0 < m ∧ m ≤ xs.length)) :
    Calls Tryz.prog 44 #[.pointer (some ⟨b, 0, none⟩), .string x] w fun e w' => e = .returned (.int .i64 0) ∧
      ∃ F', Que w' base b m (N + 1) (xs ++ [x]) F' ∧ Touch F w w' ∧ Newer w.heap.size F F' := by
  obtain ⟨v, ts, f, hh, hb, hr, hf, rfl, hN, rfl⟩ := hs
  rw [List.length_drop] at hroom
  refine (put_core b base f m x v ts w hh hr hbase (by omega) hf hroom).mono ?_
  rintro e w' ⟨rfl, nq, v', w1, rfl, hown, hgrow, hat⟩
  have hne : some b ≠ v.ownBlock := row_ne hh hr
  have hh1 : w1.heap[b]? = some (.cells #[v, .int .i64 f, .int .i64 m] 125 (0, 0)) := by
    rw [hgrow.block b (by have := heap_lt hh; simp; omega) hne]; exact (Below.heap_alloc (w.drewN nq) _ b (heap_lt hh)).trans hh
  have hne' : some b ≠ v'.ownBlock := row_ne hh1 hown
  have ht : Touch (b :: v.ownBlock.toList) w w1 := ((Touch.drewN _ w nq).trans (Touch.alloc _ _ _)).trans (Touch.grown hgrow (fun k hk => by simp [hk]))
  refine ⟨rfl, b :: v'.ownBlock.toList, ⟨v', ts ++ [x], f, ?_, hb, ?_, by simp; omega, ?_, by simp; omega, rfl⟩, ht.trans (Touch.setCell _ _ _ (by simp)), ?_⟩
  · rw [heap_set hh1]; rfl
  · simpa using ownsRow_setOther hown (a := ⟨b, 0, none⟩) hne' v'
  · rw [List.drop_append_of_le_length hf]
  · intro k hk
    rcases List.mem_cons.1 hk with rfl | hk
    · exact .inl (by simp)
    · have hk' : v'.ownBlock = some k := by simpa using hk
      rcases hat with h1 | h1
      · exact .inl (by rw [h1] at hk'; simp [hk'])
      · rw [h1] at hk'; simp only [Option.some.injEq] at hk'; exact .inr (by omega)

theorem put_full (b base N : Nat) (m : Int) (x : ByteArray) (xs : List ByteArray) (F : List Nat) (w : World) (hs : Que w base b m N xs F) (hfull : 0 < m ∧ m ≤ xs.length) :
    Calls Tryz.prog 44 #[.pointer (some ⟨b, 0, none⟩), .string x] w fun e w' => e = .returned (.int .i64 11) ∧ Que w' base b m N xs F ∧ Touch [] w w' := by
  obtain ⟨v, ts, f, hh, hb, hr, hf, rfl, hN, rfl⟩ := hs
  rw [List.length_drop] at hfull
  have hc0 := heap_cell hh 0
  have hc1 := heap_cell hh 1
  have hc2 := heap_cell hh 2
  simp only [List.getElem?_toArray, List.getElem?_cons_zero, List.getElem?_cons_succ] at hc0 hc1 hc2
  have hd : decide (0 < m ∧ m ≤ ((ts.length - f : Nat) : Int)) = true := by simpa using hfull
  have Hh : Hid (w.heap[b]? = some (.cells #[v, .int .i64 f, .int .i64 m] 125 (0, 0))) := hh
  clear hh
  have hql := fun n => qlen_any b f ts.length base v (strs ts) (w.drewN n) hc0 hc1 hr hf
  generalize ((ts.length - f : Nat) : Int) = L at hql hd
  go_enter Tryz.func44, Tryz.ntmps44
  go_wp2
  go_quiet (first | (go_at_call 51; exact Calls.quiet_of (hql _)) | (go_at_call 74; exact Calls.quiet_of_same (full_any _ _ _)))
  rw [hd]
  go_wp2
  go_ret
  exact ⟨rfl, ⟨v, ts, f, Hh.out, hb, hr, hf, rfl, hN, rfl⟩, Touch.drewN _ _ _⟩

end Go.Proofs.YtcjblafohfiiaabGreat.Tx

/-
  slices.Delete of texts.
-/
set_option linter.unusedVariables false
namespace Go.Proofs.YtcjblafohfiiaabGreat.Tx
open Go.RowKit Go.Shelf Go.Lib

set_option maxHeartbeats 4000000 in
set_option maxRecDepth 1000000 in
theorem delX_core (g n cap i j : Nat) (xs : List Value) (w : World) (hl : xs.length = n) (hcs : ∀ (t : Nat) u, xs[t]? = some u → w.cell? ⟨g, t, none⟩ = some u) (hfz : ∀ t, w.frozen? ⟨g, t, none⟩ = false) (h1c : ∀ u ∈ xs, u.oneCell' = true)
    (hij : i < j) (hj : j ≤ n) (hn : n ≤ cap) (hm : cap ≤ 9223372036854775807) :
    Calls Tryz.prog 99 #[.slice (some ⟨g, 0, none⟩) n cap, .int .i64 i, .int .i64 j] w fun e w' => e = .returned (.slice (some ⟨g, 0, none⟩) (i + (n - j)) cap) ∧
      w' = (w.drew.setCells g i (xs.drop j)).setCells g (i + (n - j)) (List.replicate (n - (i + (n - j))) (.string ⟨#[]⟩)) := by
  obtain ⟨i0, hi0, hz0, hz1, hz2⟩ := info_parts Tryz.infoStr
  have hdl : (xs.drop j).length = n - j := by rw [List.length_drop, hl]
  have hsome : ∀ t, t < n → (w.cell? ⟨g, t, none⟩).isSome = true := fun t ht => by rw [hcs t _ (List.getElem?_eq_getElem (by omega))]; rfl
  obtain ⟨A, hA, hsrc⟩ : ∃ A : Addr, (if cap = j then some (⟨g, 0, none⟩ : Addr) else some ⟨g, j, none⟩) = some A ∧ Hid (∀ t u, (xs.drop j)[t]? = some u → w.drew.cell? (A.add t) = some u) := by
    by_cases h : cap = j
    · refine ⟨⟨g, 0, none⟩, by simp [h], fun t u hu => ?_⟩
      have := (List.getElem?_eq_some_iff.1 hu).1
      omega
    · refine ⟨⟨g, j, none⟩, by simp [h], fun t u hu => ?_⟩
      rw [List.getElem?_drop] at hu
      rw [Addr.add_lit]
      exact hcs _ u hu
  have s1 : Hid ((xs.drop j).length = (n - j) * 1) := by rw [Nat.mul_one]; exact hdl
  have s2 : Hid (∀ u ∈ xs.drop j, u.oneCell' = true) := fun u hu => h1c u (List.mem_of_mem_drop hu)
  have s3 : Hid (∀ t, t < (xs.drop j).length → (w.drew.cell? ⟨g, 0 + i * 1 + t, none⟩).isSome = true ∧ w.drew.frozen? ⟨g, 0 + i * 1 + t, none⟩ = false) := fun t ht => by
    rw [Nat.mul_one, Nat.zero_add]
    exact ⟨hsome _ (by omega), hfz _⟩
  obtain ⟨W1, hW1⟩ : ∃ W1, W1 = w.drew.setCells g i (xs.drop j) := ⟨_, rfl⟩
  have hcl : ∀ ty, (Builtin.clear_ #[72] ty #[.slice (some ⟨g, i + (n - j), none⟩) (n - (i + (n - j))) (cap - (i + (n - j)))]).run Tryz.prog W1 = .ok (.tuple #[]) (W1.setCells g (i + (n - j)) (List.replicate (n - (i + (n - j))) (.string ⟨#[]⟩))) := fun ty =>
    run_clear_slice W1 _ _ ty _ Tryz.underlying72 Tryz.zeroValue9 rfl rfl g (i + (n - j)) _ _ (by omega)
      (fun t ht => by rw [hW1]; exact isSome_setCells g (xs.drop j) i w.drew (fun k hk => hsome _ (by omega)) _ (hsome _ (by omega)))
      (fun t ht => by rw [hW1, World.frozen?_setCells]; exact hfz _)
  have hW : Hid (W1 = w.drew.setCells g (0 + i * 1) (xs.drop j)) := by show _ = _; rw [hW1, Nat.mul_one, Nat.zero_add]
  have HW1 : Hid (W1 = w.drew.setCells g i (xs.drop j)) := hW1
  have hic : i ≤ cap := by omega
  have hjc : j ≤ cap := by omega
  have mixed : Tryz.prog.follows Departure.mixedOrders = true := by kernel_rfl
  have k1 : ¬ ((i : Int) = (j : Int)) := by omega
  have k2 : (i : Int) ≤ j := by omega
  have k3 : (j : Int) ≤ n := by omega
  have k4 : ¬ (cap = i + (n - j)) := by omega
  clear hW1 hcs hfz h1c hsome hdl
  go_enter Tryz.func99, Tryz.ntmps99
  go_wp2_with fail
  go_region_law_o (refine step_append_room rfl (.tmp 22) (.tmp 25) 72 rfl 9 i0 1 Tryz.underlying72 hi0 hz1 g 0 i cap (by simp [Act.eval, Act.put]) A (n - j) (cap - j) (xs.drop j) (by simp [Act.eval, Act.put]) s1.out hsrc.out s2.out (by omega) s3.out ?_; rw [← hW.out])
  go_wp2
  go_ret
  exact ⟨rfl, by rw [HW1.out]⟩

theorem own_cut {w : World} {base g n cap j : Nat} {e : TypeId} {xs : List Value} {z : Value} (h : w.ownsRow base e 1 (.slice (some ⟨g, 0, none⟩) n cap) n xs) (hj : j ≤ n) :
    ((w.drew.setCells g 0 (xs.drop j)).setCells g (0 + (n - j)) (List.replicate (n - (0 + (n - j))) z)).ownsRow base e 1 (.slice (some ⟨g, 0, none⟩) (0 + (n - j)) cap) (n - j) (xs.drop j) ∧
      Touch [g] w ((w.drew.setCells g 0 (xs.drop j)).setCells g (0 + (n - j)) (List.replicate (n - (0 + (n - j))) z)) := by
  obtain ⟨h1, h2⟩ := h
  rcases h2 with ⟨h2, _⟩ | ⟨g', cap', cur, hv, hb, hg, hn, hm, hs, ht⟩
  · simp at h2
  simp only [Value.slice.injEq, Option.some.injEq, Addr.mk.injEq, true_and, and_true] at hv
  obtain ⟨rfl, rfl⟩ := hv
  have hl : xs.length = n := by simpa using h1
  have hd : (xs.drop j).length = n - j := by rw [List.length_drop, hl]
  have hsz : cur.size = cap := by simpa using hs
  have e1 := setCells_heap g (xs.drop j) 0 w.drew cur e hg (by omega)
  have e2 := setCells_heap g (List.replicate (n - (0 + (n - j))) z) (0 + (n - j)) _ _ e e1 (by rw [over_size _ _ _ (by omega)]; simp; omega)
  refine ⟨⟨by simp [hl], .inr ⟨g, cap, _, by rw [Nat.zero_add], hb, e2, by omega, hm, ?_, ?_⟩⟩, ((Touch.drewN [g] w 1).trans (setCells_touch g _ _ _)).trans (setCells_touch g _ _ _)⟩
  · rw [over_size _ _ _ (by rw [over_size _ _ _ (by omega)]; simp; omega), over_size _ _ _ (by omega)]; exact hs
  · refine take_eq_of (by simp [hl]) (fun i hi => ?_)
    rw [over_get _ _ _ (by rw [over_size _ _ _ (by omega)]; simp; omega), if_pos (by omega), over_get _ _ _ (by omega), if_neg (by omega), if_pos (by omega), Nat.sub_zero]

theorem delq (g cap f base : Nat) (ts : List ByteArray) (w : World) (hr : w.ownsRow base 9 1 (.slice (some ⟨g, 0, none⟩) ts.length cap) ts.length (strs ts)) (hf : f ≤ ts.length) (hf0 : 0 < f) :
    Calls Tryz.prog 99 #[.slice (some ⟨g, 0, none⟩) ts.length cap, .int .i64 0, .int .i64 f] w fun e w' => e = .returned (.slice (some ⟨g, 0, none⟩) (ts.length - f) cap) ∧
      w'.ownsRow base 9 1 (.slice (some ⟨g, 0, none⟩) (ts.length - f) cap) (ts.length - f) (strs (ts.drop f)) ∧ Touch [g] w w' := by
  obtain ⟨hl, hn, hm, hcs, hsp, hfz, hsh⟩ := row_facts hr
  simp only [Nat.zero_add] at hcs hsp hfz
  have h := delX_core g ts.length cap 0 f (strs ts) w hl hcs hfz (by simp [Value.oneCell']) hf0 hf hn (by simpa [maxLen] using hm)
  refine h.mono ?_
  rintro e w' ⟨rfl, rfl⟩
  have h2 := own_cut (j := f) (z := .string ⟨#[]⟩) hr hf
  have e : strs (ts.drop f) = (strs ts).drop f := List.map_drop
  rw [e]
  simp only [Nat.zero_add] at h2
  refine ⟨by simp only [Nat.zero_add], ?_⟩
  simp only [Nat.zero_add]
  exact h2

end Go.Proofs.YtcjblafohfiiaabGreat.Tx

/-
  The queue of numbers, taken from.
-/
set_option linter.unusedVariables false
namespace Go.Proofs.YtcjblafohfiiaabGreat.Tx
open Go.RowKit

theorem close_no (b f n base : Nat) (v : Value) (xs : List Value) (w : World) (h0 : w.cell? ⟨b, 0, none⟩ = some v) (h1 : w.cell? ⟨b, 1, none⟩ = some (.int .i64 f)) (hr : w.ownsRow base 9 1 v n xs) (hf : f ≤ n) (hno : f < n - f) :
    Calls Tryz.prog 82 #[.pointer (some ⟨b, 0, none⟩)] w fun e w' => e = .returned (.tuple #[]) ∧ ∃ nq, w' = w.drewN nq := by
  have hql := fun k => qlen_any b f n base v xs (w.drewN k) h0 h1 hr hf
  have hno' : ¬ (((n - f : Nat) : Int) ≤ (f : Int)) := by omega
  generalize ((n - f : Nat) : Int) = L at hql hno'
  clear hno
  go_enter Tryz.func82, Tryz.ntmps82
  go_wp2
  go_quiet ((go_at_call 51; exact Calls.quiet_of (hql _)))
  go_wp2
  go_end0
  exact ⟨rfl, nq, rfl⟩

theorem close_yes (b f g cap base : Nat) (m : Int) (ts : List ByteArray) (w : World) (hh : w.heap[b]? = some (.cells #[.slice (some ⟨g, 0, none⟩) ts.length cap, .int .i64 f, .int .i64 m] 125 (0, 0)))
    (hr : w.ownsRow base 9 1 (.slice (some ⟨g, 0, none⟩) ts.length cap) ts.length (strs ts)) (hf : f ≤ ts.length) (hf0 : 0 < f) (hyes : ts.length - f ≤ f) :
    Calls Tryz.prog 82 #[.pointer (some ⟨b, 0, none⟩)] w fun e w' => e = .returned (.tuple #[]) ∧
      ∃ w1, w' = (w1.setCell ⟨b, 0, none⟩ (.slice (some ⟨g, 0, none⟩) (ts.length - f) cap)).setCell ⟨b, 1, none⟩ (.int .i64 0) ∧
        w1.ownsRow base 9 1 (.slice (some ⟨g, 0, none⟩) (ts.length - f) cap) (ts.length - f) (strs (ts.drop f)) ∧ Touch [g] w w1 := by
  have hne : b ≠ g := fun e => absurd (by simp [Value.ownBlock, e]) (row_ne hh hr)
  have hc0 := heap_cell hh 0
  have hc1 := heap_cell hh 1
  simp only [List.getElem?_toArray, List.getElem?_cons_zero, List.getElem?_cons_succ] at hc0 hc1
  have hbl := heap_lt hh
  have hq1 : ∀ w1, Touch [g] w w1 → w1.heap[b]? = some (.cells #[.slice (some ⟨g, 0, none⟩) ts.length cap, .int .i64 f, .int .i64 m] 125 (0, 0)) := fun w1 ht =>
    (ht.block b hbl (by simp [hne])).trans hh
  clear hh
  have hql := fun k => qlen_any b f ts.length base _ _ (w.drewN k) hc0 hc1 hr hf
  have hyes' : ((ts.length - f : Nat) : Int) ≤ (f : Int) := by omega
  generalize ((ts.length - f : Nat) : Int) = L at hql hyes'
  clear hyes
  go_enter Tryz.func82, Tryz.ntmps82
  go_wp2
  go_quiet ((go_at_call 51; exact Calls.quiet_of (hql _)))
  go_wp2
  have hr2 : (w.drewN (nq + 1)).ownsRow base 9 1 (.slice (some ⟨g, 0, none⟩) ts.length cap) ts.length (strs ts) := hr
  have hd := delq g cap f base ts _ hr2 hf hf0
  go_region_with (go_at_call 99; refine hd.mono ?_; rintro e w1 ⟨rfl, hown, ht⟩; have hh1 := hq1 w1 ((Touch.drewN _ w (nq + 1)).trans ht); have c0 := heap_cell hh1 0; have z0 := heap_frozen hh1 0; have c1 := heap_cell hh1 1; have z1 := heap_frozen hh1 1; clear hh1; simp only [List.getElem?_toArray, List.getElem?_cons_zero, List.getElem?_cons_succ] at c0 c1)
  all_goals
    go_wp2
    go_end0
    exact ⟨rfl, _, rfl, hown, (Touch.drewN _ w (nq + 1)).trans ht⟩

theorem take_none (b base N : Nat) (m : Int) (F : List Nat) (w : World) (hs : Que w base b m N [] F) :
    Calls Tryz.prog 46 #[.pointer (some ⟨b, 0, none⟩)] w fun e w' => e = .returned (.tuple #[.string ⟨#[]⟩, .bool false]) ∧ ∃ nq, w' = w.drewN nq := by
  obtain ⟨v, ts, f, hh, hb, hr, hf, hd, hN, rfl⟩ := hs
  have hl : ts.length - f = 0 := by rw [← List.length_drop, hd]; rfl
  have hc0 := heap_cell hh 0
  have hc1 := heap_cell hh 1
  simp only [List.getElem?_toArray, List.getElem?_cons_zero, List.getElem?_cons_succ] at hc0 hc1
  have hql := qlen_any b f ts.length base v (strs ts) w hc0 hc1 hr hf
  rw [hl] at hql
  clear hh hl hd
  go_enter Tryz.func46, Tryz.ntmps46
  go_wp2_with fail
  refine hql.mono ?_
  rintro e w' ⟨rfl, nq, rfl⟩
  go_wp2
  go_ret2
  exact ⟨rfl, nq, rfl⟩

/-- closeUp, whatever it does. -/
theorem close_any (b f base N : Nat) (m : Int) (v : Value) (ts : List ByteArray) (w : World) (hh : w.heap[b]? = some (.cells #[v, .int .i64 f, .int .i64 m] 125 (0, 0))) (hb : base ≤ b)
    (hr : w.ownsRow base 9 1 v ts.length (strs ts)) (hf : f ≤ ts.length) (hf0 : 0 < f) (hv : v ≠ .slice none 0 0) (hN : ts.length ≤ N) :
    Calls Tryz.prog 82 #[.pointer (some ⟨b, 0, none⟩)] w fun e w' => e = .returned (.tuple #[]) ∧ Que w' base b m N (ts.drop f) (b :: v.ownBlock.toList) ∧ Touch (b :: v.ownBlock.toList) w w' := by
  rcases hr.2 with ⟨h1, _⟩ | ⟨g, cap, cur, rfl, _⟩
  · exact absurd h1 hv
  by_cases hyes : ts.length - f ≤ f
  · refine (close_yes b f g cap base m ts w hh hr hf hf0 hyes).mono ?_
    rintro e w' ⟨rfl, w1, rfl, hown, ht⟩
    have hne : b ≠ g := fun e => absurd (by simp [Value.ownBlock, e]) (row_ne hh hr)
    have hh1 : w1.heap[b]? = some (.cells #[.slice (some ⟨g, 0, none⟩) ts.length cap, .int .i64 f, .int .i64 m] 125 (0, 0)) := (ht.block b (heap_lt hh) (by simp [hne])).trans hh
    refine ⟨rfl, ⟨.slice (some ⟨g, 0, none⟩) (ts.length - f) cap, ts.drop f, 0, ?_, hb, ?_, Nat.zero_le _, rfl, by simp; omega, rfl⟩, ?_⟩
    · rw [heap_set (heap_set hh1 0 _) 1 _]; rfl
    · rw [List.length_drop]
      exact ownsRow_setOther (ownsRow_setOther hown (by simpa [Value.ownBlock] using hne) _) (by simpa [Value.ownBlock] using hne) _
    · exact ((ht.mono (fun k hk => .inl (by simpa [Value.ownBlock] using Or.inr (by simpa using hk)))).trans (Touch.setCell _ _ _ (by simp))).trans (Touch.setCell _ _ _ (by simp))
  · have hc0 := heap_cell hh 0
    have hc1 := heap_cell hh 1
    simp only [List.getElem?_toArray, List.getElem?_cons_zero, List.getElem?_cons_succ] at hc0 hc1
    refine (close_no b f ts.length base _ _ w hc0 hc1 hr hf (by omega)).mono ?_
    rintro e w' ⟨rfl, nq, rfl⟩
    exact ⟨rfl, ⟨_, ts, f, hh, hb, hr, hf, rfl, hN, rfl⟩, Touch.drewN _ _ _⟩

theorem take_core (R : World → Prop) (b base f g cap : Nat) (m : Int) (x : ByteArray) (ts : List ByteArray) (w : World) (hh : w.heap[b]? = some (.cells #[.slice (some ⟨g, 0, none⟩) ts.length cap, .int .i64 f, .int .i64 m] 125 (0, 0)))
    (hr : w.ownsRow base 9 1 (.slice (some ⟨g, 0, none⟩) ts.length cap) ts.length (strs ts)) (hf : f < ts.length) (hx : ts[f]? = some x) (hlen : ts.length < 1000000)
    (hcl : ∀ q, Calls Tryz.prog 82 #[.pointer (some ⟨b, 0, none⟩)] (((w.drewN q).setCell ⟨g, f, none⟩ (.string ⟨#[]⟩)).setCell ⟨b, 1, none⟩ (.int .i64 ((f : Int) + 1))) fun e w' => e = .returned (.tuple #[]) ∧ R w') :
    Calls Tryz.prog 46 #[.pointer (some ⟨b, 0, none⟩)] w fun e w' => e = .returned (.tuple #[.string x, .bool true]) ∧ R w' := by
  have hne : b ≠ g := fun e => absurd (by simp [Value.ownBlock, e]) (row_ne hh hr)
  have hc0 := heap_cell hh 0
  have hc1 := heap_cell hh 1
  have hf0 := heap_frozen hh 0
  have hf1 := heap_frozen hh 1
  simp only [List.getElem?_toArray, List.getElem?_cons_zero, List.getElem?_cons_succ] at hc0 hc1
  have hcx : w.cell? ⟨g, f, none⟩ = some (.string x) := by
    rw [hr.cellAt _ (by omega)]; simp [hx]
  have hfx := hr.frozenAt f
  have hql := qlen_any b f ts.length base _ _ w hc0 hc1 hr (Nat.le_of_lt hf)
  have hl0 : ((((ts.length - f : Nat) : Int)) == 0) = false := by simp; omega
  generalize ((ts.length - f : Nat) : Int) = L at hql hl0
  have hfi : (f : Int) < (ts.length : Int) := by omega
  clear hh hx
  have Hcl : Hid (∀ q, Calls Tryz.prog 82 #[.pointer (some ⟨b, 0, none⟩)] (((w.drewN q).setCell ⟨g, f, none⟩ (.string ⟨#[]⟩)).setCell ⟨b, 1, none⟩ (.int .i64 ((f : Int) + 1))) fun e w' => e = .returned (.tuple #[]) ∧ R w') := hcl
  clear hcl
  go_enter Tryz.func46, Tryz.ntmps46
  go_wp2_with fail
  refine hql.mono ?_
  rintro e w' ⟨rfl, nq, rfl⟩
  go_wp2_with fail
  clear hql
  go_quiet (fail)
  go_wp2_with fail
  have hcb : (w.setCell ⟨g, f, none⟩ (.string ⟨#[]⟩)).cell? ⟨b, 1, none⟩ = some (.int .i64 f) := by
    rw [World.cell?_of_block (w := w) (Below.heap_setCell _ _ _ _ hne)]; exact hc1
  have hfb : (w.setCell ⟨g, f, none⟩ (.string ⟨#[]⟩)).frozen? ⟨b, 1, none⟩ = false := by
    rw [World.frozen?_of_block (w := w) (Below.heap_setCell _ _ _ _ hne)]; exact hf1
  go_region
  go_wp2_with fail
  refine (Hcl.out _).mono ?_
  rintro e w' ⟨rfl, hR⟩
  go_wp2
  go_ret2
  exact ⟨rfl, hR⟩

theorem take_any (b base N : Nat) (m : Int) (x : ByteArray) (xs : List ByteArray) (F : List Nat) (w : World) (hs : Que w base b m N (x :: xs) F) (hlen : N < 1000000) :
    Calls Tryz.prog 46 #[.pointer (some ⟨b, 0, none⟩)] w fun e w' => e = .returned (.tuple #[.string x, .bool true]) ∧ Que w' base b m N xs F ∧ Touch F w w' := by
  obtain ⟨v, ts, f, hh, hb, hr, hf, hd, hN, rfl⟩ := hs
  have hfl : f < ts.length := by
    have := congrArg List.length hd
    simp only [List.length_drop, List.length_cons] at this
    omega
  have hx : ts[f]? = some x := by
    have := congrArg (fun l => l[0]?) hd
    simpa using this
  have hxs : ts.drop (f + 1) = xs := by
    have := congrArg List.tail hd
    simpa using this
  rcases hr.2 with ⟨_, h1⟩ | ⟨g, cap, cur, rfl, _, hg, hn, hm, hcs, htk⟩
  · omega
  have hne : b ≠ g := fun e => absurd (by simp [Value.ownBlock, e]) (row_ne hh hr)
  refine take_core (fun w' => Que w' base b m N xs [b, g] ∧ Touch [b, g] w w') b base f g cap m x ts w hh hr hfl hx (by omega) ?_
  intro q
  have hh0 : (w.drewN q).heap[b]? = some (.cells #[.slice (some ⟨g, 0, none⟩) ts.length cap, .int .i64 f, .int .i64 m] 125 (0, 0)) := hh
  have hr0 : (w.drewN q).ownsRow base 9 1 (.slice (some ⟨g, 0, none⟩) ts.length cap) ts.length (strs ts) := hr
  generalize hw0 : w.drewN q = w0 at *
  have ht0 : Touch [b, g] w w0 := by rw [← hw0]; exact Touch.drewN _ _ _
  have hh1 : (w0.setCell ⟨g, f, none⟩ (.string ⟨#[]⟩)).heap[b]? = some (.cells #[.slice (some ⟨g, 0, none⟩) ts.length cap, .int .i64 f, .int .i64 m] 125 (0, 0)) := by
    rw [Below.heap_setCell _ _ _ _ hne]; exact hh0
  have hr1 := ownsRow_setOther (hr0.stored f (.string ⟨#[]⟩)).1 (a := ⟨b, 1, none⟩) (by simpa [Value.ownBlock] using hne) (.int .i64 ((f : Int) + 1))
  have hh2 := heap_set hh1 1 (.int .i64 ((f : Int) + 1))
  have e1 : (strs ts).set f (.string ⟨#[]⟩) = strs (ts.set f ⟨#[]⟩) := by simp [strs, List.map_set]
  rw [e1] at hr1
  have hc := close_any b (f + 1) base N m (.slice (some ⟨g, 0, none⟩) ts.length cap) (ts.set f ⟨#[]⟩) _ hh2 hb (by simpa using hr1) (by simp; omega) (by omega) (by simp) (by simpa using hN)
  refine hc.mono ?_
  rintro e w' ⟨rfl, hq, ht⟩
  have e2 : (ts.set f ⟨#[]⟩).drop (f + 1) = xs := by rw [List.drop_set_of_lt (by omega)]; exact hxs
  rw [e2] at hq
  exact ⟨rfl, hq, ((ht0.trans (Touch.setCell _ _ _ (by simp))).trans (Touch.setCell _ _ _ (by simp))).trans ht⟩

end Go.Proofs.YtcjblafohfiiaabGreat.Tx

/-
  The document's own answer: a text is put.
-/
set_option linter.unusedVariables false
namespace Go.Proofs.YtcjblafohfiiaabGreat.Tx
open Go.RowKit Go.Shelf

set_option maxRecDepth 20000 in
set_option maxHeartbeats 2000000 in
theorem rput_core (b base : Nat) (m : Int) (x : ByteArray) (v : Value) (xs : List ByteArray) (w : World) (hh : w.heap[b]? = some (.cells #[v, .int .i64 m] 79 (0, 0))) (hr : w.ownsRow base 9 1 v xs.length (strs xs))
    (hbase : base ≤ w.heap.size) (hlen : xs.length < 1000000) (hroom : ¬ (0 < m ∧ m ≤ xs.length)) :
    Calls Tryz.prog 45 #[.pointer (some ⟨b, 0, none⟩), .string x] w fun e w' => e = .returned (.int .i64 0) ∧
      ∃ nq v' w1, w' = w1.setCell ⟨b, 0, none⟩ v' ∧ w1.ownsRow base 9 1 v' (xs.length + 1) (strs xs ++ [.string x]) ∧ ((w.drewN nq).alloc (.cells #[.string x] 9)).grownBy w1 v.ownBlock ∧ (v'.ownBlock = v.ownBlock ∨ v'.ownBlock = some (w.heap.size + 1)) := by
  have hc0 := heap_cell hh 0
  have hc1 := heap_cell hh 1
  simp only [List.getElem?_toArray, List.getElem?_cons_zero, List.getElem?_cons_succ] at hc0 hc1
  have hf0 := heap_frozen hh 0
  have hbl := heap_lt hh
  have hne : some b ≠ v.ownBlock := row_ne hh hr
  clear hh
  obtain ⟨i0, hi, hz0, hz1, hz2⟩ := info_parts Tryz.infoStr
  obtain ⟨va, vc, hv⟩ := row_slice hr
  have Hne : Hid (some b ≠ v.ownBlock) := hne
  have Hr : Hid (w.ownsRow base 9 1 v xs.length (strs xs)) := hr
  clear hne hr
  subst hv
  by_cases hm : 0 < m
  · have hml : decide (m ≤ (xs.length : Int)) = false := by simpa using fun h => hroom ⟨hm, h⟩
    clear hroom
    go_enter Tryz.func45, Tryz.ntmps45
    go_wp2
    go_quiet (fail)
    have hr2 : (w.drewN nq).ownsRow base 9 1 (.slice va xs.length vc) xs.length (strs xs) := Hr.out
    go_wp2_with (at_builtin; refine wpList_append_own_at _ rfl _ _ 72 rfl base 9 i0 (.string ⟨#[]⟩) 1 16 Tryz.underlying72 hi hz0 hz1 hz2 rfl (by decide) _ _ _ rfl (hr2.alloc _) ⟨w.heap.size, 0, none⟩ 1 1 [.string x] rfl rfl (cell_one_new _ _ _) (by simp [Value.oneCell']) (by simp [maxLen]; omega) (by omega) (by simp; omega) ?_)
    intro v' w1 hown' hgrow _ hat
    obtain ⟨g', cap', rfl⟩ := ownsRow_succ hown'
    have hcw : w1.cell? ⟨b, 0, none⟩ = some (.slice va xs.length vc) := hgrow.cell (a := ⟨b, 0, none⟩) ((World.grownBy_alloc (w.drewN nq) _ none).cell (a := ⟨b, 0, none⟩) hc0 (by simp)) Hne.out
    have hfw : w1.frozen? ⟨b, 0, none⟩ = false := by
      rw [World.frozen?_of_block (w := (w.drewN nq).alloc (.cells #[.string x] 9)) (hgrow.block b (by simp; omega) Hne.out), World.frozen?_of_block (w := w.drewN nq) (Below.heap_alloc _ _ b hbl)]
      exact hf0
    go_wp2
    go_ret
    exact ⟨rfl, nq, _, w1, rfl, hown', hgrow, by simpa using hat⟩
  · have hd : decide (0 < m) = false := by simpa using hm
    clear hroom hm
    go_enter Tryz.func45, Tryz.ntmps45
    go_wp2
    go_quiet (fail)
    have hr2 : (w.drewN nq).ownsRow base 9 1 (.slice va xs.length vc) xs.length (strs xs) := Hr.out
    go_wp2_with (at_builtin; refine wpList_append_own_at _ rfl _ _ 72 rfl base 9 i0 (.string ⟨#[]⟩) 1 16 Tryz.underlying72 hi hz0 hz1 hz2 rfl (by decide) _ _ _ rfl (hr2.alloc _) ⟨w.heap.size, 0, none⟩ 1 1 [.string x] rfl rfl (cell_one_new _ _ _) (by simp [Value.oneCell']) (by simp [maxLen]; omega) (by omega) (by simp; omega) ?_)
    intro v' w1 hown' hgrow _ hat
    obtain ⟨g', cap', rfl⟩ := ownsRow_succ hown'
    have hcw : w1.cell? ⟨b, 0, none⟩ = some (.slice va xs.length vc) := hgrow.cell (a := ⟨b, 0, none⟩) ((World.grownBy_alloc (w.drewN nq) _ none).cell (a := ⟨b, 0, none⟩) hc0 (by simp)) Hne.out
    have hfw : w1.frozen? ⟨b, 0, none⟩ = false := by
      rw [World.frozen?_of_block (w := (w.drewN nq).alloc (.cells #[.string x] 9)) (hgrow.block b (by simp; omega) Hne.out), World.frozen?_of_block (w := w.drewN nq) (Below.heap_alloc _ _ b hbl)]
      exact hf0
    go_wp2
    go_ret
    exact ⟨rfl, nq, _, w1, rfl, hown', hgrow, by simpa using hat⟩

set_option maxRecDepth 20000 in
set_option maxHeartbeats 2000000 in
theorem rput_full (b base : Nat) (m : Int) (x : ByteArray) (xs : List ByteArray) (F : List Nat) (w : World) (hs : Num w base b m xs F) (hfull : 0 < m ∧ m ≤ (xs.length : Int)) :
    Calls Tryz.prog 45 #[.pointer (some ⟨b, 0, none⟩), .string x] w fun e w' => e = .returned (.int .i64 11) ∧ ∃ nq, w' = w.drewN nq := by
  obtain ⟨v, hh, hb, hr, rfl⟩ := hs
  have hc0 := heap_cell hh 0
  have hc1 := heap_cell hh 1
  simp only [List.getElem?_toArray, List.getElem?_cons_zero, List.getElem?_cons_succ] at hc0 hc1
  obtain ⟨va, vc, rfl⟩ := row_slice hr
  obtain ⟨hm, hml⟩ := hfull
  clear hh hr
  go_enter Tryz.func45, Tryz.ntmps45
  go_wp2
  go_quiet (fail)
  go_wp2
  go_ret
  exact ⟨rfl, nq, rfl⟩

end Go.Proofs.YtcjblafohfiiaabGreat.Tx

