/-
  Growth by site: which sites the map has.
-/
import Derived.Test.YtckcdahjajmddaaLG5
set_option linter.unusedVariables false
set_option maxRecDepth 20000
namespace Go.Proofs.Ytckcdahjajmddaa
open Go.RowKit Go.Maps Go.Sort Go.Shelf

theorem in_of_wf {a : Int} (h : (Lit.int .i64 a).wf = true) : InI a := by
  simp [Lit.wf, IntKind.min, IntKind.max, IntKind.signed, IntKind.bits] at h
  exact h

/-- The keys, sorted, are the list that rises and has just the sites. -/
theorem keys_rise {w : World} {mb n : Nat} {f : Int → Option (Int × Int)} {D : DataW Nat} (hown : w.ownsMap Try.prog 3 gEl mb n D) (hS : ∀ a, InI a → D.atKey (.int .i64 a) (gdt 0 0 0) = gof a (f a) ∧ Maps.has D (.int .i64 a) = (f a).isSome) {rs : List Int} (hr : rs.Pairwise (· < ·)) (hm : ∀ x, x ∈ rs ↔ InI x ∧ (f x).isSome = true) {ss : List Int} (hs : ss.Perm (intKeys D)) : ss.mergeSort (fun x y => decide (x ≤ y)) = rs := by
  have hnd : rs.Nodup := hr.imp (fun h => by omega)
  obtain ⟨es, hD, hpw, _⟩ := hown.entries Try.keyed
  obtain ⟨es', hD', hko⟩ := hown.keysOf
  obtain rfl : es = es' := by rw [hD] at hD'; simpa using hD'
  have hk : ∀ p ∈ es, ∃ x, p.1 = .int .i64 x ∧ (Lit.int .i64 x).wf = true := fun p hp => by
    obtain ⟨v, hv⟩ := hko p hp
    obtain ⟨x, _, hx, hw⟩ := Maps.keyOf_i64 Try.underlying3 hv
    exact ⟨x, hx, hw⟩
  have hp : rs.Perm (intKeys D) := by
    rw [hD]
    refine perm_intKeys hpw (fun p hp => by obtain ⟨x, hx, -⟩ := hk p hp; exact ⟨x, hx⟩) hnd (fun x => ?_)
    rw [hm x, ← hD]
    constructor
    · rintro ⟨h1, h2⟩
      rw [(hS x h1).2]
      exact h2
    · intro h
      have hin : InI x := by
        rw [hD, Maps.has_eq] at h
        obtain ⟨p, hp, hps⟩ := List.any_eq_true.1 h
        obtain ⟨y, hy, hw⟩ := hk p hp
        rw [hy] at hps
        simp [Lit.sameKey] at hps
        subst hps
        exact in_of_wf hw
      exact ⟨hin, by rw [← (hS x hin).2]; exact h⟩
  have hsr : ss.Perm rs := hs.trans hp.symm
  refine Lg.rise_ext (Lg.rise_sorted (hsr.nodup_iff.2 hnd)) hr (fun x => ?_)
  rw [List.mem_mergeSort]
  exact hsr.mem_iff

theorem size_le {w : World} {mb n : Nat} {D : DataW Nat} (hown : w.ownsMap Try.prog 3 gEl mb n D) : Maps.size D ≤ n := by
  obtain ⟨es, clock, -, -, h, rfl⟩ := hown
  show ((es.toList.map _).foldr DataW.insert []).length ≤ n
  rw [length_sorted]
  simpa using h

/-- Behind both counts. -/
theorem fst_two (b a : List (Int × Nat)) : fst' (fst' (fun _ => none) (-1) b) 1 a = fun y => if Lg.at' b y || Lg.at' a y then some (Lg.cnt a y - Lg.cnt b y, Lg.wds a y - Lg.wds b y) else none := by
  funext y
  have hn : ∀ l : List (Int × Nat), ¬ Lg.at' l y = true → Lg.cnt l y = 0 ∧ Lg.wds l y = 0 := fun l h => by
    have h0 : ∀ z, z ∈ l → z.1 ≠ y := fun z hz e9 => h (Lg.at_iff.2 ⟨z, hz, e9⟩)
    exact ⟨Lg.cnt_none h0, Lg.wds_none h0⟩
  unfold fst'
  by_cases ha : Lg.at' a y = true
  · by_cases hb : Lg.at' b y = true
    · simp [ha, hb]
      omega
    · have := hn b hb
      simp [ha, hb, this.1, this.2]
  · have h9 := hn a ha
    by_cases hb : Lg.at' b y = true
    · simp [ha, hb, h9.1, h9.2]
    · simp [ha, hb]

end Go.Proofs.Ytckcdahjajmddaa
