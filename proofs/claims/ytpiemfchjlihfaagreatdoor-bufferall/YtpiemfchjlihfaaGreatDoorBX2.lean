/-
  config: one that may be; begin.
-/
import Derived.Test.YtpiemfchjlihfaaGreatDoorBX1
set_option linter.unusedVariables false
set_option maxRecDepth 20000
namespace Go.Proofs.YtpiemfchjlihfaaGreatDoor
open Go.RowKit Go.Shelf

abbrev zcfg : Cfg := ⟨0, 0, 0, 0, 0, 0, 0, 0, 0, 0, 0, 0, 0, 0⟩

set_option maxHeartbeats 4000000 in
/-- middenlaw13.config: one that may be. -/
theorem config_any (cp : Cfg) (w : World) :
    Calls Tryz.prog 4 #[cv cp] w fun e w' => ∃ c : Cfg, e = .returned (cv c) ∧ c.Ok ∧ ((cp.Ok ∧ c = cp) ∨ (¬ cp.Ok ∧ c = pcfg)) ∧ Below w.heap.size w w' := by
  go_enter Tryz.func4, Tryz.ntmps4
  go_upto_region 1 with fail
  have f0 := (Cfd.new w cp).below (Below.alloc (Below.refl _ _) (Nat.le_refl _) (.cells (ccells zcfg) 23))
  have f1 := Cfd.new (w.alloc (.cells (ccells cp) 23)) zcfg
  have l0 : Below w.heap.size w ((w.alloc (.cells (ccells cp) 23)).alloc (.cells (ccells zcfg) 23)) := ((Below.refl _ w).alloc (Nat.le_refl _) _).alloc (by simp) _
  simp only [World.size_alloc] at f1
  have HF1 : Hid (Cfd ((w.alloc (.cells (ccells cp) 23)).alloc (.cells (ccells zcfg) 23)) (w.heap.size + 1) zcfg) := f1
  have HL0 : Hid (Below w.heap.size w ((w.alloc (.cells (ccells cp) 23)).alloc (.cells (ccells zcfg) 23))) := l0
  obtain ⟨W, hW⟩ : ∃ W, W = (w.alloc (.cells (ccells cp) 23)).alloc (.cells (ccells zcfg) 23) := ⟨_, rfl⟩
  show Code.wp _ _ _ _ ((w.alloc (.cells (ccells cp) 23)).alloc (.cells (ccells zcfg) 23))
  rw [← hW] at f0 HF1 HL0 ⊢
  clear f1 l0 hW
  obtain ⟨X, hX⟩ : ∃ X, X = w.heap.size := ⟨_, rfl⟩
  have HX : Hid (X = w.heap.size) := hX
  rw [← hX] at f0 HF1 ⊢
  clear hX
  have q := fix0_any cp W
  go_wp2_with (first | (refine wpList_load_row rfl 23 _ rfl X rfl 23 _ (0, 0) _ f0.at_ Tryz.underlying23 rfl cinfo ?_))
  refine q.mono ?_
  rintro e w2 ⟨lb, c, rfl, hc, hok, hcase, b2⟩
  have HC : Hid (c.Ok ∧ ((cp.Ok ∧ c = cp) ∨ (¬ cp.Ok ∧ c = pcfg))) := ⟨hok, hcase⟩
  have HF2 : Hid (Cfd w2 (X + 1) zcfg) := HF1.out.below b2
  have HL2 : Hid (Below w.heap.size w w2) := HL0.out.trans (b2.mono HL0.out.size)
  have hrg : w2.rangeAt lb 0 (ccells c).toList := fun j u hj => by
    have hjl : j < 14 := (List.getElem?_eq_some_iff.1 hj).1
    rw [Nat.zero_add, hc j hjl]
    simpa using hj
  have f2 := HF2.out.at_
  clear q b2 hc hok hcase f0 HF1 HL0
  go_wp2_with (first | (refine wpList_load_mid rfl 23 _ rfl lb 0 rfl (ccells c).toList _ hrg Tryz.underlying23 rfl cinfo ?_) | (refine wpList_store_row rfl 23 _ _ rfl (X + 1) (ccells c) rfl rfl 23 (ccells zcfg) f2 cinfo rfl (by kernel_rfl) ?_))
  have o3 : Cfd (w2.setRow (X + 1) (ccells c)) (X + 1) c := ⟨setRow_heap _ _ _ _ _ _ f2⟩
  refine bodyPost_ret (results_cell1 Tryz.results4 rfl o3.load) rfl ?_
  exact ⟨c, rfl, HC.out.1, HC.out.2, below_setRow HL2.out (by have := HX.out; omega) _⟩

end Go.Proofs.YtpiemfchjlihfaaGreatDoor
