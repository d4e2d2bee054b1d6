/-
  Clear; To of any word; lists of one's own.
-/
import Derived.Test.YtlnfhnahnmblmabDoorM15
import Derived.Lib.LazyBuf
import Derived.Lib.SliceRun
set_option linter.unusedVariables false
set_option maxRecDepth 20000
namespace Go.Proofs.YtlnfhnahnmblmabDoor
open Go.RowKit Go.Shelf

theorem Touch.setCells {F : List Nat} (b : Nat) (h : b ∈ F) : ∀ (vs : List Value) (o : Nat) (w : World), Touch F w (w.setCells b o vs)
  | [], _, w => Touch.refl F w
  | v :: r, o, w => (Touch.setCell w ⟨b, o, none⟩ v h).trans (Touch.setCells b h r (o + 1) _)

theorem Mp.zero {w : World} {b g n : Nat} {M : Nat → Bool} (h : Mp w b g n M) : Mp (w.setCells g 0 (List.replicate (wds n) (.int .u64 0))) b g n (fun _ => false) := by
  refine ⟨rowIs_setCells_other h.ne _ _ _ h.own, (rowIs_setCells _ 0 _ _ h.row).congr (fun j hj => ?_), h.le, fun _ _ => rfl⟩
  simp only [List.length_replicate]
  rw [if_pos ⟨Nat.zero_le _, by omega⟩, List.getElem?_replicate, if_pos (by omega), wd_none]; rfl

set_option maxHeartbeats 1000000 in
theorem clear_any (b g n : Nat) (M : Nat → Bool) (w : World) (hM : Mp w b g n M) :
    Calls Tryd.prog 22 #[.pointer (some ⟨b, 0, none⟩)] w fun r w' => r = .returned (.tuple #[]) ∧ Mp w' b g n (fun _ => false) ∧ Touch [g] w w' := by
  have c1 := hM.c1
  have h0 := hM.zero
  have t0 : Touch [g] w (w.setCells g 0 (List.replicate (wds n) (.int .u64 0))) := Touch.setCells g (by simp) _ _ _
  by_cases hL : wds n = 0
  · rw [hL] at c1 h0 t0
    have hcl : ∀ ty, (Builtin.clear_ #[55] ty #[.slice (some ⟨g, 0, none⟩) 0 0]).run Tryd.prog w = .ok (.tuple #[]) w := fun ty => by
      simp [Builtin.clear_, go_sem]
    have h0' : Mp w b g n (fun _ => false) := h0
    have H0 : Hid (Mp w b g n (fun _ => false)) := h0'
    clear h0'
    clear h0 t0 hM hL
    go_enter Tryd.func22, Tryd.ntmps22
    go_wp2
    go_returns
    exact ⟨rfl, H0.out, Touch.refl _ _⟩
  · have hcl : ∀ ty, (Builtin.clear_ #[55] ty #[.slice (some ⟨g, 0, none⟩) (wds n) (wds n)]).run Tryd.prog w = .ok (.tuple #[]) (w.setCells g 0 (List.replicate (wds n) (.int .u64 0))) := fun ty =>
      Lib.run_clear_slice w _ _ ty _ Tryd.underlying55 Tryd.zeroValue59 rfl rfl g 0 _ _ (by omega)
        (fun t ht => by rw [Nat.zero_add, hM.at ht]; rfl) (fun t ht => hM.row.frozen _)
    have H0 : Hid (Mp (w.setCells g 0 (List.replicate (wds n) (.int .u64 0))) b g n (fun _ => false)) := h0
    have T0 : Hid (Touch [g] w (w.setCells g 0 (List.replicate (wds n) (.int .u64 0)))) := t0
    clear h0 t0 hM hL
    go_enter Tryd.func22, Tryd.ntmps22
    go_wp2
    go_returns
    exact ⟨rfl, H0.out, T0.out⟩

/-- What To answers. -/
def tov (N : Nat → Bool) (base : Nat) (z : Int) : Nat := if hasB N z = true then base + rk N z.toNat else 0

theorem to_any (s kb kg q base e : Nat) (N : Nat → Bool) (z : Int) (w : World) (hS : Sl w s kb kg q base e N) (hL : Laid w) :
    Calls Tryd.prog 34 #[.pointer (some ⟨s, 0, none⟩), .int .i64 z] w fun r w' => r = .returned (.tuple #[.int .i64 (tov N base z : Nat), .bool (hasB N z)]) ∧ Below w.heap.size w w' := by
  cases h : hasB N z
  · have : tov N base z = 0 := by simp [tov, h]
    rw [this]
    exact (to_out s kb kg q base e N z h w hS).mono (fun _ _ ⟨h1, h2⟩ => ⟨h1, by rw [← h2]; exact Below.refl _ _⟩)
  · have hz : 0 ≤ z := by
      unfold hasB at h
      simp only [Bool.and_eq_true, decide_eq_true_eq] at h
      exact h.1
    obtain ⟨a, rfl⟩ := Int.eq_ofNat_of_zero_le hz
    have hN : N a = true := by simpa [hasB] using h
    have : tov N base (a : Int) = base + rk N a := by simp [tov, h]
    rw [this]
    exact to_in s kb kg q base e a N hN w hS hL

theorem tov_le (N : Nat → Bool) (base e : Nat) (hb : base ≤ 1048576) (he : e ≤ 1048576) (ho : ∀ k, e ≤ k → N k = false) (z : Int) : tov N base z ≤ 2097152 := by
  unfold tov
  split
  · have h1 := rk_le N e
    have : rk N z.toNat ≤ rk N e := by
      by_cases h : z.toNat ≤ e
      · exact rk_mono N h
      · rw [rk_out ho (by omega)]; exact Nat.le_refl _
    omega
  · omega

/-- A list of one's own, in blocks from base on. -/
def Lsb (B : Nat) (w : World) (a : Option Addr) (l : List Int) : Prop :=
  ∀ i u, l[i]? = some u → ∃ g, B ≤ g ∧ a = some ⟨g, 0, none⟩ ∧ w.cell? ⟨g, i, none⟩ = some (.int .i64 u)

theorem Lsb.touch {B : Nat} {w w' : World} {a : Option Addr} {l : List Int} {F : List Nat} (h : Lsb B w a l) (t : Touch F w w') (hF : ∀ k ∈ F, k < B ∨ w.heap.size ≤ k) : Lsb B w' a l := fun i u hu => by
  obtain ⟨g, h1, h2, h3⟩ := h i u hu
  have hlt := World.block_lt_of_cell? _ _ h3
  exact ⟨g, h1, h2, t.cell h3 (fun hm => by have := hF _ hm; simp only at this hlt; omega)⟩

theorem Lsb.below {B : Nat} {w w' : World} {a : Option Addr} {l : List Int} (h : Lsb B w a l) (t : Below w.heap.size w w') : Lsb B w' a l := h.touch (Touch.of_below t []) (by simp)

theorem own_lsb {B : Nat} {w : World} {v : Value} {l : List Int} (h : w.ownsRow B 3 1 v l.length (l.map (.int .i64))) : ∃ a cap, v = .slice a l.length cap ∧ l.length ≤ cap ∧ Lsb B w a l := by
  obtain ⟨hl, ⟨h0, h1⟩ | ⟨g', cap, cur, hv, hge, hh, hn, -, hs, ht⟩⟩ := h
  · have : l = [] := List.length_eq_zero_iff.1 h1
    subst this
    exact ⟨none, 0, h0, Nat.le_refl _, fun i u h => by simp at h⟩
  · refine ⟨_, cap, hv, hn, fun i u hu => ⟨g', hge, rfl, ?_⟩⟩
    rw [cell_of_row _ _ i _ _ _ hh]
    have hil := (List.getElem?_eq_some_iff.1 hu).1
    have h2 : (l.map (Value.int .i64))[i]? = some (.int .i64 u) := by rw [List.getElem?_map, hu]; rfl
    rw [← ht, List.getElem?_take_of_lt (by omega)] at h2
    simpa using h2
end Go.Proofs.YtlnfhnahnmblmabDoor
