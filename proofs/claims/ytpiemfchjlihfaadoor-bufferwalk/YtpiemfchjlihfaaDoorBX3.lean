/-
  begin: an arena, its buffers, nothing put.
-/
import Derived.Test.YtpiemfchjlihfaaDoorBX2
import Derived.Test.YtpiemfchjlihfaaDoorBS1
set_option linter.unusedVariables false
set_option maxRecDepth 20000
namespace Go.Proofs.YtpiemfchjlihfaaDoor
open Go.RowKit Go.Shelf

theorem Ws.start {n0 : Nat} {w w' : World} {wb b ab ag nt : Nat} {c : Cfg} {s : Int} (hB : Bw n0 w b ab ag c (tops0 c) (fun _ => 0) (bfs0 nt s)) (l : Below w.heap.size w w') (hq : w'.heap[wb]? = some (.cells #[.pointer (some ⟨ab, 0, none⟩), .pointer (some ⟨b, 0, none⟩), .int .i64 nt, .slice none 0 0] 52 (0, 0))) (hl : n0 ≤ wb) :
    Ws n0 w' wb b ab ag nt c 1 (fun _ => 0) (bfs0 nt s) [] [] (.slice none 0 0) :=
  ⟨hB.below l, ⟨rfl, rfl, fun t _ h => absurd h (Int.lt_irrefl 0), fun t u _ _ _ h => absurd h (Int.lt_irrefl 0), List.Perm.refl _, (fun T h => nomatch h), (fun _ g h => nomatch h)⟩, hq, ⟨World.ownsRow_nil _ _ _ _, (fun T h => nomatch h), (fun i j T U h => by simp at h)⟩, hl, rfl⟩

set_option maxHeartbeats 4000000 in
theorem begin_any (cp : Cfg) (th wd : Int) (t s nt : Nat) (ht : t < 8) (hnt : nt = t + 1) (hs : s ≤ 65536)
    (hT0 : ∀ w : World, Calls Tryd.prog 8 #[.int .i64 th, .int .i64 8] w fun e w' => e = .returned (.int .i64 t) ∧ w = w')
    (hS0 : ∀ w : World, Calls Tryd.prog 8 #[.int .i64 wd, .int .i64 200] w fun e w' => e = .returned (.int .i64 s) ∧ w = w')
    (n0 : Nat) (w : World) (hn0 : n0 ≤ w.heap.size) (hL : Laid w) (hg : 1 < n0 ∧ 0 < n0) :
    Calls Tryd.prog 14 #[cv cp, .int .i64 th, .int .i64 wd] w fun e w' => ∃ wb b ab ag c, e = .returned (.pointer (some ⟨wb, 0, none⟩)) ∧ Ws n0 w' wb b ab ag nt c 1 (fun _ => 0) (bfs0 nt s) [] [] (.slice none 0 0) ∧ ((cp.Ok ∧ c = cp) ∨ (¬ cp.Ok ∧ c = pcfg)) ∧ Below w.heap.size w w' ∧ (w.heap.size ≤ wb ∧ wb < w'.heap.size) := by
  have HT : Hid (∀ w : World, Calls Tryd.prog 8 #[.int .i64 th, .int .i64 8] w fun e w' => e = .returned (.int .i64 t) ∧ w = w') := hT0
  have HS : Hid (∀ w : World, Calls Tryd.prog 8 #[.int .i64 wd, .int .i64 200] w fun e w' => e = .returned (.int .i64 s) ∧ w = w') := hS0
  have HL : Hid (Laid w ∧ (1 < n0 ∧ 0 < n0) ∧ n0 ≤ w.heap.size) := ⟨hL, hg, hn0⟩
  have Hnt : Hid (nt = t + 1) := hnt
  have hntI : 1 + (t : Int) = (nt : Int) := by omega
  have hnt8 : 1 ≤ nt ∧ nt ≤ 8 := by omega
  clear hT0 hS0 hL hg hn0 hnt
  go_enter Tryd.func14, Tryd.ntmps14
  go_upto_region 1 with fail
  have f0 := Cfd.new w cp
  have l0 : Below w.heap.size w (w.alloc (.cells (ccells cp) 24)) := Below.alloc (Below.refl _ _) (Nat.le_refl _) _
  generalize w.alloc (.cells (ccells cp) 24) = W at *
  have HF0 : Hid (Cfd W w.heap.size cp) := f0
  have HL0 : Hid (Below w.heap.size w W) := l0
  have q := HT.out W
  clear f0 l0
  go_wp2_with fail
  refine q.mono ?_
  rintro e w1 ⟨rfl, rfl⟩
  have f0 := HF0.out.at_
  have q := config_any cp W
  go_wp2_with (refine wpList_load_row rfl 24 _ rfl w.heap.size rfl 24 _ (0, 0) _ f0 Tryd.underlying24 rfl cinfo ?_)
  refine q.mono ?_
  rintro e w2 ⟨c, rfl, hok, hcase, b2⟩
  have HC : Hid (c.Ok ∧ ((cp.Ok ∧ c = cp) ∨ (¬ cp.Ok ∧ c = pcfg))) := ⟨hok, hcase⟩
  have HL2 : Hid (Below w.heap.size w w2) := HL0.out.trans (b2.mono HL0.out.size)
  have q := new_yes c hok w2
  clear f0 b2 hok hcase HF0 HL0
  go_wp2_with fail
  refine q.mono ?_
  rintro e w3 ⟨ab, ag, rfl, ar3, b3, lab, lag⟩
  have HA3 : Hid (Ar w3 ab ag c (tops0 c) false (fun _ => 0)) := ar3
  have HB3 : Hid (Below w.heap.size w w3 ∧ w.heap.size ≤ ab ∧ w.heap.size ≤ ag) := ⟨HL2.out.trans (b3.mono HL2.out.size), Nat.le_trans HL2.out.size lab, Nat.le_trans HL2.out.size lag⟩
  have q := HS.out w3
  clear ar3 b3 lab lag HL2
  go_wp2_with fail
  refine q.mono ?_
  rintro e w4 ⟨rfl, rfl⟩
  have q := bnew_yes nt s ⟨by omega, by omega, by omega, by omega⟩ w3
  go_wp2_with fail
  refine q.mono ?_
  rintro e w5 ⟨b, rfl, bf5, b5, lb5⟩
  have HW5 : Hid (Bw n0 w5 b ab ag c (tops0 c) (fun _ => 0) (bfs0 nt s)) := Bw.start HA3.out (HL.out.1.keep HB3.out.1) ⟨Nat.le_trans HL.out.2.2 HB3.out.2.1, Nat.le_trans HL.out.2.2 HB3.out.2.2⟩ HL.out.2.1 bf5 b5 lb5
  have HB5 : Hid (Below w.heap.size w w5) := HB3.out.1.trans (b5.mono HB3.out.1.size)
  clear q bf5 b5 lb5
  go_wp2
  go_ret
  have q1 := heap_alloc_new w5 (.cells #[.pointer (some ⟨ab, 0, none⟩), .pointer (some ⟨b, 0, none⟩), .int .i64 nt, .slice none 0 0] 52)
  have q2 : Below w5.heap.size w5 (w5.alloc (.cells #[.pointer (some ⟨ab, 0, none⟩), .pointer (some ⟨b, 0, none⟩), .int .i64 nt, .slice none 0 0] 52)) := Below.alloc (Below.refl _ _) (Nat.le_refl _) _
  exact ⟨w5.heap.size, b, ab, ag, c, rfl, Ws.start HW5.out q2 q1 (Nat.le_trans HL.out.2.2 HB5.out.size), HC.out.2, HB5.out.trans (q2.mono HB5.out.size), HB5.out.size, (Array.getElem?_eq_some_iff.1 q1).1⟩

end Go.Proofs.YtpiemfchjlihfaaDoor
