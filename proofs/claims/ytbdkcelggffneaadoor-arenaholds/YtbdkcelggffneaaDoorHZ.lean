/-
  What a write into one thing does to what the arena holds.
-/
import Derived.Test.YtbdkcelggffneaaDoorHXa
set_option linter.unusedVariables false
set_option maxRecDepth 20000
namespace Go.Proofs.YtbdkcelggffneaaDoor
open Go.RowKit Go.Shelf

theorem ats_eq (s : Nat) (th : List Tng) : (th.filter (inS s)).map (·.at_) = ((th.map fun T => (T.sp, T.at_)).filter fun z => decide (z.1 = (s : Int))).map (·.2) := by
  induction th with
  | nil => rfl
  | cons T th ih =>
    simp only [List.map_cons]
    by_cases h : T.sp = (s : Int)
    · rw [List.filter_cons_of_pos (by simpa [inS] using h), List.filter_cons_of_pos (by simpa using h)]
      simp [ih]
    · rw [List.filter_cons_of_neg (by simpa [inS] using h), List.filter_cons_of_neg (by simpa using h)]
      exact ih

theorem map_set_same {α β : Type} (f : α → β) (l : List α) (i : Nat) (y z : α) (hy : l[i]? = some y) (hz : f z = f y) : (l.set i z).map f = l.map f := by
  apply List.ext_getElem?
  intro k
  rw [List.getElem?_map, List.getElem?_map, List.getElem?_set]
  by_cases h : i = k
  · subst h
    have hi := (List.getElem?_eq_some_iff.1 hy).1
    rw [if_pos rfl, if_pos hi, hy]
    simp [hz]
  · rw [if_neg h]

section
variable {c : Cfg} {x : Tps} {sw : Bool} {ws ws' : Nat → Int} {th : List Tng} {w : World} {b g : Nat}

theorem set_at_of {α : Type} {l : List α} {i k : Nat} {z y : α} (h : (l.set i z)[k]? = some y) : (k = i ∧ y = z) ∨ (k ≠ i ∧ l[k]? = some y) := by
  rw [List.getElem?_set] at h
  by_cases e : i = k
  · subst e
    rw [if_pos rfl] at h
    split at h
    · exact .inl ⟨rfl, (Option.some.inj h).symm⟩
    · simp at h
  · rw [if_neg e] at h
    exact .inr ⟨fun e' => e e'.symm, h⟩

theorem Hld.osz (H : Hld c x ws th) {T : Tng} (hT : T ∈ th) : osz c ws T.at_ = 2 + T.p + T.r := by
  obtain ⟨-, -, h3, h4, -⟩ := H.hds T hT
  unfold Go.Proofs.YtbdkcelggffneaaDoor.osz
  rw [h3, h4]

/-- One thing is written anew; its words alone change. -/
theorem Hld.write (H : Hld c x ws th) (hA : Ar w b g c x sw ws) (i : Nat) (T U : Tng) (hTi : th[i]? = some T) (hsame : ∀ k, (k < T.at_ ∨ T.at_ + 2 + T.p + T.r ≤ k) → wat c ws' k = wat c ws k)
    (ea : U.at_ = T.at_) (es : U.sp = T.sp) (ep : U.p = T.p) (er : U.r = T.r) (hh : IsHead (wat c ws' T.at_))
    (hd : wat c ws' (U.at_ + 1) = U.s ∧ kdOf (wat c ws' U.at_) = U.k ∧ ptOf (wat c ws' U.at_) = U.p ∧ rwOf (wat c ws' U.at_) = U.r ∧ agOf (wat c ws' U.at_) = U.a ∧ stOf (wat c ws' U.at_) = U.t ∧ hdOf (wat c ws' U.at_) = U.h)
    (hpn : U.ps.length = T.ps.length) (hrn : U.rs.length = T.rs.length)
    (hpv : ∀ (f : Nat) z, U.ps[f]? = some z → wat c ws' (U.at_ + 2 + f) = z ∧ z < c.words) (hrv : ∀ (f : Nat) z, U.rs[f]? = some z → wat c ws' (U.at_ + 2 + U.p + f) = z) :
    Hld c x ws' (th.set i U) := by
  have hm := List.mem_of_getElem? hTi
  have hoz := H.osz hm
  obtain ⟨s, s1, s4, hs, hsp, hlt, hst, hge, hin⟩ := H.stands hA hm
  have hpp := H.psn T hm
  have hrr := H.rsn T hm
  -- another thing's words stay
  have oth : ∀ (k : Nat) V, k ≠ i → th[k]? = some V → ∀ y, V.at_ ≤ y → y < V.at_ + 2 + V.p + V.r → wat c ws' y = wat c ws y := fun k V hk hV y h1 h2 => by
    apply hsame
    rcases H.dis k i V T hV hTi hk with h | h
    · exact .inl (by omega)
    · exact .inr (by omega)
  have big : ∀ V, V ∈ th → 0 ≤ V.p ∧ 0 ≤ V.r := fun V hV => by
    have h1 := H.psn V hV
    have h2 := H.rsn V hV
    omega
  refine ⟨fun s' h1 h4 => ?_, fun V hV => ?_, fun V hV => ?_, fun V hV => ?_, fun V hV => ?_, fun V hV f z hz => ?_, fun V hV f z hz => ?_, fun k l V V' hk hl hkl => ?_⟩
  · have e : ((th.set i U).filter (inS s')).map (·.at_) = (th.filter (inS s')).map (·.at_) := by
      rw [ats_eq, ats_eq, map_set_same (fun T : Tng => (T.sp, T.at_)) th i T U hTi (by rw [ea, es])]
    rw [e]
    by_cases hss : s' = s
    · subst hss
      refine (H.seg s' h1 h4).inner hin (fun k hk => hsame k (by omega)) hh ?_ ?_
      · rw [(H.hds T hm).2.2.1, ← ep, ← hd.2.2.1, ea]
      · rw [(H.hds T hm).2.2.2.1, ← er, ← hd.2.2.2.1, ea]
    · refine (H.seg s' h1 h4).congr fun k hk1 hk2 => hsame k ?_
      have hb := hA.sub_in s'
      have hb2 := hA.sub_in s
      have h5 : spc c k = s' := spc_is hA.ok k s' (by omega) (by omega) hk1 (by omega)
      rcases Int.lt_or_le k T.at_ with h6 | h6
      · exact .inl h6
      · rcases Int.lt_or_le k (T.at_ + 2 + T.p + T.r) with h7 | h7
        · have h8 := hst.2
          have h9 : spc c k = s := spc_is hA.ok k s (by omega) (by omega) (by omega) (by omega)
          exact absurd (by omega : s' = s) hss
        · exact .inr h7
  · obtain ⟨k, hk⟩ := List.getElem?_of_mem hV
    rcases set_at_of hk with ⟨rfl, rfl⟩ | ⟨hn, hk⟩
    · rw [es]; exact ⟨s, s1, s4, hs⟩
    · exact H.spr V (List.mem_of_getElem? hk)
  · obtain ⟨k, hk⟩ := List.getElem?_of_mem hV
    rcases set_at_of hk with ⟨rfl, rfl⟩ | ⟨hn, hk⟩
    · exact hd
    · have hb := big V (List.mem_of_getElem? hk)
      have h1 := oth k V hn hk V.at_ (by omega) (by omega)
      have h2 := oth k V hn hk (V.at_ + 1) (by omega) (by omega)
      rw [h1, h2]
      exact H.hds V (List.mem_of_getElem? hk)
  · obtain ⟨k, hk⟩ := List.getElem?_of_mem hV
    rcases set_at_of hk with ⟨rfl, rfl⟩ | ⟨hn, hk⟩
    · omega
    · exact H.psn V (List.mem_of_getElem? hk)
  · obtain ⟨k, hk⟩ := List.getElem?_of_mem hV
    rcases set_at_of hk with ⟨rfl, rfl⟩ | ⟨hn, hk⟩
    · omega
    · exact H.rsn V (List.mem_of_getElem? hk)
  · obtain ⟨k, hk⟩ := List.getElem?_of_mem hV
    rcases set_at_of hk with ⟨rfl, rfl⟩ | ⟨hn, hk⟩
    · exact hpv f z hz
    · have hmV := List.mem_of_getElem? hk
      have hb := big V hmV
      have hf := (List.getElem?_eq_some_iff.1 hz).1
      have hp := H.psn V hmV
      rw [oth k V hn hk (V.at_ + 2 + f) (by omega) (by omega)]
      exact H.psv V hmV f z hz
  · obtain ⟨k, hk⟩ := List.getElem?_of_mem hV
    rcases set_at_of hk with ⟨rfl, rfl⟩ | ⟨hn, hk⟩
    · exact hrv f z hz
    · have hmV := List.mem_of_getElem? hk
      have hb := big V hmV
      have hf := (List.getElem?_eq_some_iff.1 hz).1
      have hp := H.psn V hmV
      have hr := H.rsn V hmV
      rw [oth k V hn hk (V.at_ + 2 + V.p + f) (by omega) (by omega)]
      exact H.rsv V hmV f z hz
  · rcases set_at_of hk with ⟨rfl, rfl⟩ | ⟨hn, hk2⟩
    · rcases set_at_of hl with ⟨rfl, rfl⟩ | ⟨hn2, hl⟩
      · exact absurd rfl hkl
      · rw [ea, ep, er]; exact H.dis _ _ T V' hTi hl hkl
    · rcases set_at_of hl with ⟨rfl, rfl⟩ | ⟨hn2, hl⟩
      · rw [ea, ep, er]; exact H.dis _ _ V T hk2 hTi hkl
      · exact H.dis _ _ V V' hk2 hl hkl
end

end Go.Proofs.YtbdkcelggffneaaDoor
