/-
  rests: each rest lies in eden below its top, and no two overlap.
-/
import Derived.Test.YtpiemfchjlihfaaDoorBW2
set_option linter.unusedVariables false
set_option maxRecDepth 20000
namespace Go.Proofs.YtpiemfchjlihfaaDoor
open Go.RowKit

section
variable {n0 : Nat} {w w' : World} {wb b ab ag nt : Nat} {c : Cfg} {top : Nat} {ws : Nat → Int} {B : Bfs} {L : List Sg} {Th : List Ob} {lv : Value}

/-- A rest, by numbers. -/
theorem Ws.rest (S : Ws n0 w wb b ab ag nt c top ws B L Th lv) {t : Nat} (ht : t < 8) : ∃ q n : Nat, B.at_ t = q ∧ B.ws t = n ∧ (n = 0 → q = 0) ∧ (0 < n → 1 ≤ q ∧ q + n ≤ top ∧ At 1 L q ⟨n, none⟩) ∧ q ≤ 70000 ∧ n ≤ 70000 := by
  have hr := S.bw.rs t ht
  have hl := S.topl
  have h0 := hr.n0
  by_cases hz : B.ws t = 0
  · exact ⟨0, 0, hr.z hz, hz, fun _ => rfl, fun h => by omega, by omega, by omega⟩
  · have q0 := hr.q0 (by omega)
    have q1 : B.at_ t + B.ws t ≤ (top : Int) := hr.q1 (by omega)
    refine ⟨(B.at_ t).toNat, (B.ws t).toNat, by omega, by omega, fun h => by omega, fun _ => ⟨by omega, by omega, S.wo.rs t ht (by omega)⟩, by omega, by omega⟩

/-- Two rests lie apart. -/
theorem Ws.apart (S : Ws n0 w wb b ab ag nt c top ws B L Th lv) {t u : Nat} (ht : t < 8) (hu : u < 8) (hne : t ≠ u) {q n p m : Nat} (hq : B.at_ t = q) (hn : B.ws t = n) (hp : B.at_ u = p) (hm : B.ws u = m) (h0 : 0 < n) (h1 : 0 < m) : q + n ≤ p ∨ p + m ≤ q := by
  have a1 := S.wo.rs t ht (by omega)
  have a2 := S.wo.rs u hu (by omega)
  have hd := S.wo.ne t u ht hu hne (by omega) (by omega)
  rw [hq, hn] at a1
  rw [hp, hm] at a2
  rw [hq, hp] at hd
  simp only [Int.toNat_natCast] at a1 a2
  rcases a1.apart a2 with ⟨e, _⟩ | h | h
  · omega
  · exact .inl h
  · exact .inr h

set_option maxHeartbeats 8000000 in
theorem rests_any (S : Ws n0 w wb b ab ag nt c top ws B L Th lv) :
    Calls Tryd.prog 40 #[.pointer (some ⟨wb, 0, none⟩)] w fun e w' => e = .returned (.bool true) ∧ Below w.heap.size w w' := by
  have HS : Hid (Ws n0 w wb b ab ag nt c top ws B L Th lv) := S
  have hnt : nt ≤ 8 := by have := S.bw.bf.n1; have := S.nt; omega
  have htl := S.topl.1
  clear S
  go_enter Tryd.func40, Tryd.ntmps40
  go_upto_region 2 with fail
  go_loopw [3] (fun i wr => ∃ (t : Nat), i = .int .i64 t ∧ t ≤ nt ∧ Hid (Below w.heap.size w wr)) (fun i _ => nt - (intOf i).toNat)
  case atStart => exact ⟨0, rfl, by omega, Below.refl _ _⟩
  case round =>
    obtain ⟨t, rfl, ht, HB⟩ := hrel
    have HSr : Hid (Ws n0 wr wb b ab ag nt c top ws B L Th lv) := HS.out.below HB.out
    have k1 := HSr.out.wp.c1
    have k2 := HSr.out.wp.c2
    by_cases hlt : t < nt
    · have hli : (t : Int) < nt := by omega
      obtain ⟨q, n, hq, hn, hz, hp, hq7, hn7⟩ := HS.out.rest (t := t) (by omega)
      have qr := brest_yes HSr.out.bw.bf t (by have := HS.out.nt; omega)
      rw [hq, hn] at qr
      have HQ : Hid (B.at_ t = q ∧ B.ws t = n) := ⟨hq, hn⟩
      clear hq hn
      go_wp2_with fail
      refine qr.mono ?_
      rintro e9 wa ⟨rfl, b4⟩
      have HBa : Hid (Below w.heap.size w wa) := HB.out.trans (b4.mono HB.out.size)
      have HSa : Hid (Ws n0 wa wb b ab ag nt c top ws B L Th lv) := HS.out.below HBa.out
      clear qr b4 k1 k2 HSr HB
      have k0 := HSa.out.wp.c0
      have qt := top_any ab ag c (xt c top) false ws 1 wa HSa.out.bw.ar
      have et : (xt c top).top 1 = (top : Int) := rfl
      rw [et] at qt
      clear et
      have HT : Hid (∀ wx, Below w.heap.size w wx → True) := fun _ _ => True.intro
      by_cases hn0 : n = 0
      · obtain rfl := hz hn0
        subst hn0
        clear qt k0
        go_upto_region 8 with fail
        go_loopw [6] (fun i wr => i = .int .i64 0 ∧ wr = wa) (fun _ _ => 0)
        case atStart => exact ⟨rfl, rfl⟩
        case round =>
          obtain ⟨rfl, rfl⟩ := hrel
          by_cases h0 : (0 : Int) < t
          · go_wp2
            go_roundw
            case rel => exact ⟨t + 1, by go_num, by omega, HBa⟩
            case measure => simp [intOf]; omega
          · go_wp2
            go_roundw
            case rel => exact ⟨t + 1, by go_num, by omega, HBa⟩
            case measure => simp [intOf]; omega
      · have hnp : (0 : Int) < n := by omega
        have hnz : ((n : Int) == 0) = false := by simpa using hn0
        have hnn : ¬ (n : Int) < 0 := by omega
        obtain ⟨hp1, hp2, -⟩ := hp (by omega)
        have hq1 : ¬ (q : Int) < 1 := by omega
        have hqt : ¬ (top : Int) < (q : Int) + n := by omega
        go_wp2_with fail
        refine qt.mono ?_
        rintro e9 wc ⟨rfl, b5⟩
        have HBc : Hid (Below w.heap.size w wc) := HBa.out.trans (b5.mono HBa.out.size)
        clear qt b5 k0 HBa HSa hqt hq1
        go_upto_region 8 with fail
        go_loopw [6] (fun i wr => ∃ (u : Nat), i = .int .i64 u ∧ u ≤ t ∧ Hid (Below w.heap.size w wr)) (fun i _ => t - (intOf i).toNat)
        case atStart => exact ⟨0, rfl, by omega, HBc⟩
        case round =>
          obtain ⟨u, rfl, hu, HBu⟩ := hrel
          have HSu : Hid (Ws n0 wr wb b ab ag nt c top ws B L Th lv) := HS.out.below HBu.out
          have k1 := HSu.out.wp.c1
          by_cases hut : u < t
          · have hui : (u : Int) < t := by omega
            obtain ⟨p, m, hp', hm', hz', hpp, hp7, hm7⟩ := HS.out.rest (t := u) (by omega)
            have qr := brest_yes HSu.out.bw.bf u (by have := HS.out.nt; omega)
            rw [hp', hm'] at qr
            have hap : 0 < m → q + n ≤ p ∨ p + m ≤ q := fun h9 => HS.out.apart (t := t) (u := u) (by omega) (by omega) (by omega) HQ.out.1 HQ.out.2 hp' hm' (by omega) h9
            clear hp' hm' hz' hpp
            go_wp2_with fail
            refine qr.mono ?_
            rintro e9 wd ⟨rfl, b6⟩
            have HBd : Hid (Below w.heap.size w wd) := HBu.out.trans (b6.mono HBu.out.size)
            clear qr b6 k1 HSu HBu
            by_cases hm0 : 0 < m
            · have hmI : (0 : Int) < m := by omega
              rcases hap hm0 with h9 | h9
              · have h9' : ¬ (p : Int) < (q : Int) + n := by omega
                go_wp2
                go_roundw
                case rel => exact ⟨u + 1, by go_num, by omega, HBd⟩
                case measure => simp [intOf]; omega
              · by_cases h8 : (p : Int) < (q : Int) + n
                · have h9' : ¬ (q : Int) < (p : Int) + m := by omega
                  go_wp2
                  go_roundw
                  case rel => exact ⟨u + 1, by go_num, by omega, HBd⟩
                  case measure => simp [intOf]; omega
                · exfalso; omega
            · have hmI : ¬ (0 : Int) < m := by omega
              go_wp2
              go_roundw
              case rel => exact ⟨u + 1, by go_num, by omega, HBd⟩
              case measure => simp [intOf]; omega
          · have hui : ¬ (u : Int) < t := by omega
            go_wp2
            go_roundw
            case rel => exact ⟨t + 1, by go_num, by omega, HBu⟩
            case measure => simp [intOf]; omega
    · have hli : ¬ (t : Int) < nt := by omega
      go_wp2
      go_returns
      exact ⟨rfl, HB.out⟩

end
end Go.Proofs.YtpiemfchjlihfaaDoor
