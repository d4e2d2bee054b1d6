/-
  held, where the things are as the arena has them.
-/
import Derived.Test.YtbdkcelggffneaaDoorHXa
import Derived.Test.YtbdkcelggffneaaDoorHV
import Derived.Test.YtbdkcelggffneaaDoorHK
import Derived.Test.YtbdkcelggffneaaDoorH3
set_option linter.unusedVariables false
set_option maxRecDepth 20000
namespace Go.Proofs.YtbdkcelggffneaaDoor
open Go.RowKit Go.Shelf

section
variable {c : Cfg} {x : Tps} {sw : Bool} {ws : Nat → Int} {th : List Tng} {w : World} {b g : Nat}

theorem held_any (a0 : Option Addr) (cap : Nat) (hlen : th.length ≤ 1000) (hA : Ar w b g c x sw ws) (hL : Laid w) (hT : Tgs w a0 th) (H : Hld c x ws th) :
    Calls Tryd.prog 24 #[.pointer (some ⟨b, 0, none⟩), .slice a0 th.length cap] w fun e w' => e = .returned (.bool true) ∧ Below w.heap.size w w' := by
  refine held_core b a0 cap th hlen w hT (fun i T hTi => ?_) (fun s w1 s1 s4 l => ?_) (fun i T f z w1 hTi hz l => ?_) (fun i T f z w1 hTi hz l => ?_) (fun w1 l => ?_)
  · have hm := List.mem_of_getElem? hTi
    have h1 := H.psn T hm
    have h2 := H.rsn T hm
    have h3 := pt_in (wat c ws T.at_)
    have h4 := rw_in (wat c ws T.at_)
    have h5 := H.hds T hm
    omega
  · obtain ⟨p, hp, hw⟩ := (H.seg s s1 s4).walk
    have hfl : (th.filter (inS s)).length ≤ th.length := List.length_filter_le _ _
    refine (objects3_any b g c x sw ws s _ p _ hp hw ((th.length : Int) + 1) (by simp; omega) (by simp; omega) w1 (hA.below l) (hL.keep l)).mono ?_
    rintro e w' ⟨tb, f, va, vh, rfl, k, l2⟩
    exact ⟨tb, rfl, H.tok s k, l2⟩
  · have hm := List.mem_of_getElem? hTi
    obtain ⟨s, s1, s4, hs, h1, h2, h3, -, -⟩ := H.stands hA hm
    have hf := (List.getElem?_eq_some_iff.1 hz).1
    obtain ⟨hv, hc⟩ := H.psv T hm f z hz
    have hpn := H.psn T hm
    have hh := (H.hds T hm).2.2.1
    have := ptr_yes b g c x sw ws T.at_ s f h1 (by omega) h2 h3 (by omega) (by rw [hv]; exact hc) w1 (hA.below l) (hL.keep l)
    rw [hv] at this
    exact this
  · have hm := List.mem_of_getElem? hTi
    obtain ⟨s, s1, s4, hs, h1, h2, h3, -, -⟩ := H.stands hA hm
    have hf := (List.getElem?_eq_some_iff.1 hz).1
    have hv := H.rsv T hm f z hz
    have hrn := H.rsn T hm
    have hh := (H.hds T hm).2.2.2.1
    have hpp := (H.hds T hm).2.2.1
    have := raw_yes b g c x sw ws T.at_ s f h1 (by omega) h2 h3 (by omega) w1 (hA.below l) (hL.keep l)
    rw [hpp, hv] at this
    exact this
  · refine check_ok b g c x sw ws (fun s hs => ?_) w1 (hA.below l) (hL.keep l)
    obtain ⟨n, rfl⟩ : ∃ n : Nat, s = n := ⟨s.toNat, by omega⟩
    obtain ⟨p, hp, hw⟩ := (H.seg n (by omega) (by omega)).walk
    exact ⟨_, p, hp, hw⟩
end

end Go.Proofs.YtbdkcelggffneaaDoor
