import Derived.Test.YtkekaifiahjljaaGreatDoorC06
import Derived.Test.YtkekaifiahjljaaGreatDoorC00
import Derived.Deep.Cut
set_option linter.unusedVariables false
set_option maxHeartbeats 8000000
set_option maxRecDepth 20000
namespace Go.Proofs.YtkekaifiahjljaaGreatDoor
open Go.RowKit Go.Shelf
theorem rBetween_any (lo hi : Int) (n0 : Nat) (v : Value) (l : List Int) (w : World) (hv : Lrd n0 w v .i64 l) (hl : l.length ≤ 4611686018427387904) :
    Calls Tryz.prog 114 #[v, .int .i64 lo, .int .i64 hi] w fun e w' => ∃ r : Bool, e = .returned (.bool r) ∧ w' = w ∧ (r = true ↔ allB lo hi l) := by
  obtain ⟨a, cap, rfl, hcap, hc⟩ := hv
  have Hc : Hid (∀ (f : Nat) z, l[f]? = some z → ∃ q off, a = some ⟨q, off, none⟩ ∧ q < n0 ∧ w.cell? ⟨q, off + f, none⟩ = some (.int .i64 z)) := hc
  clear hc
  go_enter Tryz.func114, Tryz.ntmps114
  go_wp2
  go_loopw [7] (fun v7 wr => ∃ k : Nat, k ≤ l.length ∧ v7 = .int .i64 k ∧ w = wr ∧ Hid (∀ z, z ∈ l.take k → inB lo hi z = true)) (fun v7 _ => l.length - (intOf v7).toNat)
  case atStart => exact ⟨0, Nat.zero_le _, rfl, rfl, (fun z hz => by simp at hz : ∀ z, z ∈ l.take 0 → inB lo hi z = true)⟩
  case round =>
    obtain ⟨k, hk, rfl, rfl, Hk⟩ := hrel
    by_cases hkl : k < l.length
    · have hz : l[k]? = some (l[k]'hkl) := List.getElem?_eq_getElem hkl
      generalize l[k]'hkl = z at hz
      obtain ⟨q, off, rfl, hq, ca⟩ := Hc.out k z hz
      have hkI : (k : Int) < (l.length : Int) := by omega
      have Hz : Hid (l[k]? = some z) := hz
      clear hz
      by_cases h1 : z < lo
      · have Hf : Hid (¬ allB lo hi l) := fun h9 => by have := h9 z (List.mem_of_getElem? Hz.out); simp [inB] at this; omega
        go_wp2
        go_ret
        first | exact ⟨false, rfl, rfl, by simpa using Hf.out⟩ | exact .inl ⟨rfl, rfl, Hf.out⟩
      · by_cases h2 : z > hi
        · have Hf : Hid (¬ allB lo hi l) := fun h9 => by have := h9 z (List.mem_of_getElem? Hz.out); simp [inB] at this; omega
          go_wp2
          go_ret
          first | exact ⟨false, rfl, rfl, by simpa using Hf.out⟩ | exact .inl ⟨rfl, rfl, Hf.out⟩
        · have Hn : Hid (∀ y, y ∈ l.take (k + 1) → inB lo hi y = true) := fun y hy => by
            rw [take_snocL Hz.out] at hy
            rcases List.mem_append.1 hy with h9 | h9
            · exact Hk.out y h9
            · simp at h9; rw [h9]; simp [inB]; omega
          go_wp2
          go_roundw
          case rel => exact ⟨k + 1, by omega, by go_num, trivial, Hn⟩
          case measure => simp [intOf]; omega
    · have hki : ¬ (k : Int) < (l.length : Int) := by omega
      have Ha : Hid (allB lo hi l) := by
        have h9 := Hk.out
        rw [List.take_of_length_le (by omega)] at h9
        exact h9
      clear Hk
      go_wp2
      go_ret
      exact .inr ⟨rfl, rfl, Ha.out⟩
theorem calls_same {f : Nat} {args : Array Value} {w : World} {p : Prop} (h : Calls Tryz.prog f args w fun e w' => ∃ r : Bool, e = .returned (.bool r) ∧ w' = w ∧ (r = true ↔ p)) :
    (p → Calls Tryz.prog f args w fun e w' => e = .returned (.bool true) ∧ w' = w) ∧ (¬ p → Calls Tryz.prog f args w fun e w' => e = .returned (.bool false) ∧ w' = w) := by
  constructor
  · intro hp
    refine h.mono ?_
    rintro e w' ⟨r, rfl, hb, hr⟩
    exact ⟨by rw [hr.2 hp], hb⟩
  · intro hp
    refine h.mono ?_
    rintro e w' ⟨r, rfl, hb, hr⟩
    cases r with
    | true => exact absurd (hr.1 rfl) hp
    | false => exact ⟨rfl, hb⟩
structure RO (obs : List Im.Ob) (n next k : Nat) : Prop where
  rise : Im.Rise 0 (obs.take k)
  low : ∀ o, o ∈ obs.take k → o.ser < next
  head : ∀ o, o ∈ obs.take k → hd16 o
  ptrs : ∀ o, o ∈ obs.take k → allB 0 n o.ps
theorem rise_last : ∀ (l : List Im.Ob) (n : Nat), Im.Rise n l → ∀ o, o ∈ l → o.ser ≤ (l.getLast?.map (·.ser)).getD n ∧ n < o.ser := by
  intro l
  induction l with
  | nil => intro n _ o ho; simp at ho
  | cons x r ih =>
    intro n h o ho
    simp only [Im.Rise] at h
    cases r with
    | nil =>
      simp at ho
      subst ho
      exact ⟨by simp, h.1⟩
    | cons y r' =>
      rw [List.getLast?_cons_cons]
      cases hl : (y :: r').getLast? with
      | none => simp at hl
      | some z =>
        have h9 := ih x.ser h.2
        rw [hl] at h9
        rcases List.mem_cons.1 ho with e | e
        · subst e
          have := h9 y (by simp)
          simp at this ⊢
          exact ⟨by omega, h.1⟩
        · have := h9 o e
          simp at this ⊢
          exact ⟨this.1, by omega⟩
theorem om_iff {g : Im.Gr} (h1 : 1 ≤ g.next) (h2 : g.next ≤ 4611686018427387905) (h : RO g.obs g.obs.length g.next g.obs.length) : OM g := by
  have e : g.obs.take g.obs.length = g.obs := List.take_length
  obtain ⟨a, b, c, d⟩ := h
  rw [e] at a b c d
  refine ⟨a, c, d, ?_, h2⟩
  unfold lastS
  cases hl : g.obs.getLast? with
  | none => simp; omega
  | some z => simpa using b z (List.mem_of_getLast? hl)
theorem om_next {g : Im.Gr} (h : OM g) : 1 ≤ g.next := by have := h.low; omega
theorem om_low {g : Im.Gr} (h : OM g) : ∀ o, o ∈ g.obs → o.ser < g.next := fun o ho => by
  have h1 := (rise_last g.obs 0 h.rise o ho).1
  have h2 := h.low
  unfold lastS at h2
  omega
end Go.Proofs.YtkekaifiahjljaaGreatDoor
namespace Go.Proofs.YtkekaifiahjljaaGreatDoor
open Go.RowKit
theorem rcheck_bad (s k p r a t : Int) (h : Bool) (hk : k < 1 ∨ 4 < k ∨ (k = 2 ∧ p < 1) ∨ (k = 3 ∧ p < 2)) (w : World) :
    Calls Tryz.prog 164 #[hv s k p r a t h] w fun e w' => e = .returned (.int .i64 20) ∧ w' = w.alloc (.cells (hcells s k p r a t h) 149) := by
  rcases hk with c | c | ⟨rfl, c⟩ | ⟨rfl, c⟩
  all_goals
    go_enter Tryz.func164, Tryz.ntmps164
    go_wp2
    go_ret
    exact ⟨rfl, rfl⟩
structure Good (k p : Int) : Prop where
  h : ¬ (k < 1 ∨ 4 < k ∨ (k = 2 ∧ p < 1) ∨ (k = 3 ∧ p < 2))
theorem rcheck_good (s k p r a t : Int) (h : Bool) (hk : ¬ (k < 1 ∨ 4 < k ∨ (k = 2 ∧ p < 1) ∨ (k = 3 ∧ p < 2))) (w : World) :
    Calls Tryz.prog 164 #[hv s k p r a t h] w fun e w' => e = .returned (.int .i64 (flt k p r a t)) ∧ w' = w.alloc (.cells (hcells s k p r a t h) 149) := by
  generalize hf : flt k p r a t = f
  have hg : Good k p := ⟨hk⟩
  obtain rfl | rfl | ⟨rfl, hp⟩ | ⟨rfl, hp⟩ : k = 1 ∨ k = 4 ∨ (k = 2 ∧ 1 ≤ p) ∨ (k = 3 ∧ 2 ≤ p) := by omega
  all_goals
    clear hk
    go_enter Tryz.func164, Tryz.ntmps164
    go_upto_region 3 with fail
    by_cases c0 : p < 0
    · first
      | (exfalso; omega)
      | (go_wp2
         go_ret
         refine ⟨?_, rfl⟩
         rw [← hf, flt_ptrs hg.h (by omega)]
         rfl)
    by_cases c1 : 4095 < p
    · go_wp2
      go_ret
      refine ⟨?_, rfl⟩
      rw [← hf, flt_ptrs hg.h (by omega)]
      rfl
    by_cases c2 : r < 0
    · go_wp2
      go_ret
      refine ⟨?_, rfl⟩
      rw [← hf, flt_raws hg.h (by omega) (by omega)]
      rfl
    by_cases c3 : 65535 < r
    · go_wp2
      go_ret
      refine ⟨?_, rfl⟩
      rw [← hf, flt_raws hg.h (by omega) (by omega)]
      rfl
    by_cases c4 : a < 0
    · go_wp2
      go_ret
      refine ⟨?_, rfl⟩
      rw [← hf, flt_age hg.h (by omega) (by omega) (by omega)]
      rfl
    by_cases c5 : 15 < a
    · go_wp2
      go_ret
      refine ⟨?_, rfl⟩
      rw [← hf, flt_age hg.h (by omega) (by omega) (by omega)]
      rfl
    by_cases c6 : t < 0
    · go_wp2
      go_ret
      refine ⟨?_, rfl⟩
      rw [← hf, flt_site hg.h (by omega) (by omega) (by omega) (by omega)]
      rfl
    by_cases c7 : 255 < t
    · go_wp2
      go_ret
      refine ⟨?_, rfl⟩
      rw [← hf, flt_site hg.h (by omega) (by omega) (by omega) (by omega)]
      rfl
    go_wp2
    go_ret
    refine ⟨?_, rfl⟩
    rw [← hf, flt_ok hg.h (by omega) (by omega) (by omega) (by omega)]
    rfl
theorem rcheck_any (s k p r a t : Int) (h : Bool) (w : World) :
    Calls Tryz.prog 164 #[hv s k p r a t h] w fun e w' => e = .returned (.int .i64 (flt k p r a t)) ∧ w' = w.alloc (.cells (hcells s k p r a t h) 149) := by
  by_cases hk : k < 1 ∨ 4 < k ∨ (k = 2 ∧ p < 1) ∨ (k = 3 ∧ p < 2)
  · rw [flt_kind hk]
    exact rcheck_bad s k p r a t h hk w
  · exact rcheck_good s k p r a t h hk w
theorem rpack_any (s k p r a t : Int) (h : Bool) (w : World) :
    Calls Tryz.prog 113 #[hv s k p r a t h] w fun e w' => e = .returned (.tuple #[.int .u64 (pck k p r a t h), .int .i64 (flt k p r a t)]) ∧ Below w.heap.size w w' := by
  by_cases hf : flt k p r a t = 0
  · have hp : pck k p r a t h = wrd k p r a t h := by unfold pck; rw [if_pos hf]
    have hfa := rcheck_any s k p r a t h (w.alloc (.cells (hcells s k p r a t h) 149))
    obtain ⟨h1, h2, h3, h4, h5, h6, h7, h8, h9, h10, h11, h12⟩ := May.of hf
    clear h3 h4
    rw [hf] at hfa ⊢
    rw [hp]
    clear hf hp
    have hw : wrd k p r a t h = ((((((r * 4096 + p) * 256 + t) * 16 + a) * 2 + (if h then 1 else 0)) * 8 + k) * 4 + 1) := by
      unfold wrd
      cases h <;> simp <;> omega
    rw [hw]
    clear hw
    have hb : Below w.heap.size w ((w.alloc (.cells (hcells s k p r a t h) 149)).alloc (.cells (hcells s k p r a t h) 149)) := by go_grown
    cases h
    all_goals
      go_enter Tryz.func113, Tryz.ntmps113
      go_wp2_with fail
      refine hfa.mono ?_
      rintro e w' ⟨rfl, rfl⟩
      go_wp2
      go_ret2
      refine ⟨?_, hb⟩
      simp
  · have hp : pck k p r a t h = 0 := by unfold pck; rw [if_neg hf]
    have hfa := rcheck_any s k p r a t h (w.alloc (.cells (hcells s k p r a t h) 149))
    rw [hp]
    generalize flt k p r a t = f at hf hfa ⊢
    go_enter Tryz.func113, Tryz.ntmps113
    go_wp2_with fail
    refine hfa.mono ?_
    rintro e w' ⟨rfl, rfl⟩
    go_wp2
    go_ret2
    refine ⟨rfl, ?_⟩
    go_grown
end Go.Proofs.YtkekaifiahjljaaGreatDoor
namespace Go.Proofs.YtkekaifiahjljaaGreatDoor
open Go.RowKit Go.Shelf
theorem rise_app : ∀ {l r : List Im.Ob} {n : Nat}, Im.Rise n (l ++ r) → Im.Rise n l := by
  intro l
  induction l with
  | nil => intro r n _; trivial
  | cons x l ih =>
    intro r n h
    simp only [List.cons_append, Im.Rise] at h ⊢
    exact ⟨h.1, ih h.2⟩
theorem rObjects_any (n0 : Nat) (w : World) (vo vs vh vr vq : Value) (os : List OL) (ts : List (Value × List (Value × List Int))) (g : Im.Gr) (hg : Grd n0 w vo vs vh vr vq os ts g) (hn : n0 ≤ w.heap.size) (hol : os.length ≤ 1000000000000) :
    Calls Tryz.prog 61 #[.agg (gcs vo vs vh vr vq g.next)] w fun e w' => ∃ r : Bool, e = .returned (.bool r) ∧ Below w.heap.size w w' ∧ (r = true ↔ OM g) := by
  have l1 : Below w.heap.size w (w.alloc (.cells (gcs vo vs vh vr vq g.next) 27)) := Below.alloc (Below.refl _ _) (Nat.le_refl _) _
  have hy := fun j => cell_of_row _ _ j _ _ _ (heap_alloc_new w (.cells (gcs vo vs vh vr vq g.next) 27 (0, 0)))
  have y0 : (w.alloc (.cells (gcs vo vs vh vr vq g.next) 27)).cell? ⟨w.heap.size, 0, none⟩ = some vo := hy 0
  have y5 : (w.alloc (.cells (gcs vo vs vh vr vq g.next) 27)).cell? ⟨w.heap.size, 5, none⟩ = some (.int .u64 g.next) := hy 5
  have Hg : Hid (Grd n0 w vo vs vh vr vq os ts g) := hg
  have hx := hg.ob
  obtain ⟨a, cap, rfl, -⟩ := hx
  have Heo : Hid (g.obs = os.map (·.o)) := hg.eo
  have Heol : Hid (g.obs.length = os.length) := by show _ = _; rw [hg.eo, List.length_map]
  have hnx := hg.nx
  clear hg hy
  generalize hw1 : w.alloc (.cells (gcs (.slice a os.length cap) vs vh vr vq g.next) 27) = w1 at *
  have e1 : w1.heap.size = w.heap.size + 1 := by rw [← hw1]; simp
  have HK : Hid (∀ w', Below w1.heap.size w1 w' → w'.cell? ⟨w.heap.size, 0, none⟩ = some (.slice a os.length cap) ∧ w'.cell? ⟨w.heap.size, 5, none⟩ = some (.int .u64 g.next)) := fun w' b' => by
    have hlt : w.heap.size < w1.heap.size := by omega
    exact ⟨(b'.cell (p := ⟨w.heap.size, 0, none⟩) hlt).trans y0, (b'.cell (p := ⟨w.heap.size, 5, none⟩) hlt).trans y5⟩
  go_enter Tryz.func61, Tryz.ntmps61
  by_cases hx1 : g.next < 1
  · have hx1i : (g.next : Int) < 1 := by omega
    have Hn : Hid (¬ OM g) := fun h => by have := om_next h; omega
    go_wp2
    go_ret
    first | exact ⟨false, rfl, l1, by simpa using Hn.out⟩ | exact .inl ⟨rfl, l1, Hn.out⟩
  have hx1i : ¬ (g.next : Int) < 1 := by omega
  by_cases hx2 : g.next > 4611686018427387905
  · have hx2i : (g.next : Int) > 4611686018427387905 := by omega
    have Hn : Hid (¬ OM g) := fun h => by have := h.nx; omega
    go_wp2
    go_ret
    first | exact ⟨false, rfl, l1, by simpa using Hn.out⟩ | exact .inl ⟨rfl, l1, Hn.out⟩
  have hx2i : ¬ (g.next : Int) > 4611686018427387905 := by omega
  have Hnx : Hid (1 ≤ g.next ∧ g.next ≤ 4611686018427387905) := ⟨by omega, by omega⟩
  clear hx1 hx2
  go_wp2
  go_loopw [3, 4] (fun v3 v4 wr => ∃ k : Nat, k ≤ os.length ∧ v4 = .int .i64 k ∧ v3 = .int .u64 (lastS (g.obs.take k)) ∧ Hid (Below w1.heap.size w1 wr) ∧ Hid (RO g.obs g.obs.length g.next k)) (fun _ v4 _ => os.length - (intOf v4).toNat)
  case atStart => exact ⟨0, Nat.zero_le _, rfl, rfl, Below.refl _ _, ⟨by simp [Im.Rise], by simp, by simp, by simp⟩⟩
  case round =>
    obtain ⟨k, hk, rfl, rfl, Hb, Hk⟩ := hrel
    obtain ⟨z0, z5⟩ := HK.out _ Hb.out
    have BW : Hid (Below w.heap.size w wr) := l1.trans (Hb.out.mono l1.size)
    by_cases hkl : k < os.length
    · have hki : (k : Int) < (os.length : Int) := by omega
      have hz : os[k]? = some (os[k]'hkl) := List.getElem?_eq_getElem hkl
      generalize os[k]'hkl = x at hz
      obtain ⟨a', cap', ea, hob⟩ := (Hg.out.below (BW.out.mono hn)).ob
      cases ea
      obtain ⟨hp, hr, q, off, rfl, hq, hc⟩ := hob k x hz
      have c0 : wr.cell? ⟨q, off + k * 5, none⟩ = some (.int .u64 x.o.ser) := hc 0 (by omega)
      have c1 : wr.cell? ⟨q, off + k * 5 + 1, none⟩ = some (.int .i64 x.o.kind) := hc 1 (by omega)
      have c2 : wr.cell? ⟨q, off + k * 5 + 2, none⟩ = some (.int .i64 x.o.site) := hc 2 (by omega)
      have c3 : wr.cell? ⟨q, off + k * 5 + 3, none⟩ = some x.vp := hc 3 (by omega)
      have c4 : wr.cell? ⟨q, off + k * 5 + 4, none⟩ = some x.vr := hc 4 (by omega)
      have Hp : Hid (∀ w', Below w.heap.size w w' → Lrd n0 w' x.vp .i64 x.o.ps) := fun w' b' => by
        obtain ⟨_, _, _, hob'⟩ := (Hg.out.below (b'.mono hn)).ob
        exact (hob' k x hz).1
      obtain ⟨ap, cp, ep, -⟩ := hp
      obtain ⟨ar, cr, er, -⟩ := hr
      rw [ep] at c3 Hp
      rw [er] at c4
      have hrl : (x.o.rs.map Int.ofNat).length = x.o.rs.length := List.length_map _
      rw [hrl] at c4
      have Hz : Hid (g.obs[k]? = some x.o) := by show _ = _; rw [Heo.out, List.getElem?_map, hz]; rfl
      clear hob hc hz ep er hrl
      go_upto_region 8 with fail
      have hA := fun j => cell_of_row _ _ j _ _ _ (heap_alloc_new wr (.cells (ocs x.o.ser x.o.kind x.o.site (.slice ap x.o.ps.length cp) (.slice ar x.o.rs.length cr)) 39 (0, 0)))
      have HbA : Hid (Below w1.heap.size w1 (wr.alloc (.cells (ocs x.o.ser x.o.kind x.o.site (.slice ap x.o.ps.length cp) (.slice ar x.o.rs.length cr)) 39))) := Hb.out.alloc Hb.out.size _
      have HsA : Hid ((wr.alloc (.cells (ocs x.o.ser x.o.kind x.o.site (.slice ap x.o.ps.length cp) (.slice ar x.o.rs.length cr)) 39)).heap.size = wr.heap.size + 1) := by show _ = _; simp
      rw [show (#[.int .u64 x.o.ser, .int .i64 x.o.kind, .int .i64 x.o.site, .slice ap x.o.ps.length cp, .slice ar x.o.rs.length cr] : Array Value) = ocs x.o.ser x.o.kind x.o.site (.slice ap x.o.ps.length cp) (.slice ar x.o.rs.length cr) from rfl]
      generalize wr.alloc (.cells (ocs x.o.ser x.o.kind x.o.site (.slice ap x.o.ps.length cp) (.slice ar x.o.rs.length cr)) 39) = wA at *
      have d0 : wA.cell? ⟨wr.heap.size, 0, none⟩ = some (.int .u64 x.o.ser) := hA 0
      have d1 : wA.cell? ⟨wr.heap.size, 1, none⟩ = some (.int .i64 x.o.kind) := hA 1
      have d2 : wA.cell? ⟨wr.heap.size, 2, none⟩ = some (.int .i64 x.o.site) := hA 2
      have d3 : wA.cell? ⟨wr.heap.size, 3, none⟩ = some (.slice ap x.o.ps.length cp) := hA 3
      have d4 : wA.cell? ⟨wr.heap.size, 4, none⟩ = some (.slice ar x.o.rs.length cr) := hA 4
      have hpk := rpack_any 0 x.o.kind x.o.ps.length x.o.rs.length 0 x.o.site false wA
      clear hA c0 c1 c2 c3 c4 z0 z5
      go_upto_region 9 with (first | (go_at_call 113; refine hpk.mono ?_; rintro e wP ⟨rfl, bP⟩))
      have HbP : Hid (Below w1.heap.size w1 wP) := HbA.out.trans (bP.mono HbA.out.size)
      have hltA : wr.heap.size < wA.heap.size := by have := HsA.out; omega
      have p0 := (bP.cell (p := ⟨wr.heap.size, 0, none⟩) hltA).trans d0
      have p3 := (bP.cell (p := ⟨wr.heap.size, 3, none⟩) hltA).trans d3
      obtain ⟨z0, z5⟩ := HK.out _ HbP.out
      have BP : Hid (Below w.heap.size w wP) := l1.trans (HbP.out.mono l1.size)
      have hpl : x.o.ps.length ≤ 4611686018427387904 := (Hg.out.sr x.o (List.mem_of_getElem? Hz.out)).2.2.2.1
      have hbt := calls_same (rBetween_any 0 os.length n0 (.slice ap x.o.ps.length cp) x.o.ps wP (Hp.out wP BP.out) hpl)
      have hserlt : x.o.ser < 18446744073709551616 := (Hg.out.sr x.o (List.mem_of_getElem? Hz.out)).1
      have Hsn : Hid (lastS (g.obs.take (k + 1)) = x.o.ser) := by show _ = _; rw [take_snocL Hz.out, lastS_snoc]
      clear hpk bP d0 d1 d2 d3 d4 HbA HsA
      by_cases hs1 : x.o.ser ≤ lastS (g.obs.take k)
      · have hs1i : (x.o.ser : Int) ≤ (lastS (g.obs.take k) : Int) := by omega
        have Hn : Hid (¬ OM g) := fun h => by
          have h9 := h.rise
          have h8 : Im.Rise 0 (g.obs.take (k + 1)) := by
            have h7 : g.obs = g.obs.take (k + 1) ++ g.obs.drop (k + 1) := (List.take_append_drop _ _).symm
            rw [h7] at h9
            exact rise_app h9
          rw [take_snocL Hz.out, rise_snoc] at h8
          have := h8.2
          unfold lastS at hs1
          omega
        clear hbt
        go_wp2
        go_ret
        first | exact ⟨false, rfl, BP.out, by simpa using Hn.out⟩ | exact .inl ⟨rfl, BP.out, Hn.out⟩
      have hs1i : ¬ (x.o.ser : Int) ≤ (lastS (g.obs.take k) : Int) := by omega
      by_cases hs2 : x.o.ser ≥ g.next
      · have hs2i : (x.o.ser : Int) ≥ (g.next : Int) := by omega
        have Hn : Hid (¬ OM g) := fun h => by
          have := om_low h x.o (List.mem_of_getElem? Hz.out)
          omega
        clear hbt
        go_wp2
        go_ret
        first | exact ⟨false, rfl, BP.out, by simpa using Hn.out⟩ | exact .inl ⟨rfl, BP.out, Hn.out⟩
      have hs2i : ¬ (x.o.ser : Int) ≥ (g.next : Int) := by omega
      by_cases hf : flt x.o.kind x.o.ps.length x.o.rs.length 0 x.o.site = 0
      · by_cases hb : allB 0 os.length x.o.ps
        · have hc := hbt.1 hb
          have Hn : Hid (RO g.obs g.obs.length g.next (k + 1)) := by
            have h9 := Hk.out
            refine ⟨?_, ?_, ?_, ?_⟩
            · rw [take_snocL Hz.out, rise_snoc]
              exact ⟨h9.rise, by unfold lastS at hs1; omega⟩
            · intro o ho
              rw [take_snocL Hz.out] at ho
              rcases List.mem_append.1 ho with h | h
              · exact h9.low o h
              · simp at h; rw [h]; omega
            · intro o ho
              rw [take_snocL Hz.out] at ho
              rcases List.mem_append.1 ho with h | h
              · exact h9.head o h
              · simp at h; rw [h]; exact hf
            · intro o ho
              rw [take_snocL Hz.out] at ho
              rcases List.mem_append.1 ho with h | h
              · exact h9.ptrs o h
              · simp at h; rw [h, Heol.out]; exact hb
          clear hbt
          go_wp2_with fail
          refine hc.mono ?_
          rintro e wQ ⟨rfl, rfl⟩
          clear hc
          go_wp2
          go_roundw
          case rel => exact ⟨k + 1, by omega, by go_num, by rw [Hsn.out], HbP, Hn⟩
          case measure => simp [intOf]; omega
        · have hc := hbt.2 hb
          have Hn : Hid (¬ OM g) := fun h => hb (by rw [← Heol.out]; exact h.ptrs x.o (List.mem_of_getElem? Hz.out))
          clear hbt
          go_wp2_with fail
          refine hc.mono ?_
          rintro e wQ ⟨rfl, rfl⟩
          clear hc
          go_wp2
          go_ret
          first | exact ⟨false, rfl, BP.out, by simpa using Hn.out⟩ | exact .inl ⟨rfl, BP.out, Hn.out⟩
      · have hfb : (flt x.o.kind x.o.ps.length x.o.rs.length 0 x.o.site != 0) = true := by simpa using hf
        have Hn : Hid (¬ OM g) := fun h => hf (h.head x.o (List.mem_of_getElem? Hz.out))
        clear hbt
        go_wp2
        go_ret
        first | exact ⟨false, rfl, BP.out, by simpa using Hn.out⟩ | exact .inl ⟨rfl, BP.out, Hn.out⟩
    · have hki : ¬ (k : Int) < (os.length : Int) := by omega
      have Hy : Hid (OM g) := om_iff Hnx.out.1 Hnx.out.2 (by have h9 := Hk.out; rw [show g.obs.length = k by rw [Heol.out]; omega] at h9 ⊢; exact h9)
      go_wp2
      go_ret
      first | exact ⟨true, rfl, BW.out, by simpa using Hy.out⟩ | exact .inr ⟨rfl, BW.out, Hy.out⟩
structure TM (n : Nat) (t : List (List Int)) : Prop where
  few : fsum t ≤ 4096
  ok : fOk n t
theorem TM.nil (n : Nat) : TM n [] := ⟨by simp [fsum], fun f hf => by simp at hf⟩
theorem TM.snoc {n k : Nat} {t : List (List Int)} {f : List Int} (hz : t[k]? = some f) (h : TM n (t.take k)) (h1 : 1 ≤ f.length) (h2 : fsum (t.take k) + f.length ≤ 4096) (h3 : allB 0 n f) : TM n (t.take (k + 1)) := by
  rw [take_snocL hz]
  refine ⟨by rw [fsum_snoc]; exact h2, fun x hx => ?_⟩
  rcases List.mem_append.1 hx with h9 | h9
  · exact h.ok x h9
  · simp at h9; rw [h9]; exact ⟨h1, h3⟩
structure SH (g : Im.Gr) : Prop where
  s : SM g
  h : HM g
theorem sm_tm {g : Im.Gr} (h : SM g) {t : List (List Int)} (ht : t ∈ g.slots) : TM g.obs.length t := ⟨h.few t ht, h.ok t ht⟩
theorem rSlots_any (n0 : Nat) (w : World) (vo vs vh vr vq : Value) (os : List OL) (ts : List (Value × List (Value × List Int))) (g : Im.Gr) (hg : Grd n0 w vo vs vh vr vq os ts g) (hn : n0 ≤ w.heap.size) (hol : os.length ≤ 1000000000000) (hs : Sln ts) (hhl : g.hs.length ≤ 1000000000000) :
    Calls Tryz.prog 62 #[.agg (gcs vo vs vh vr vq g.next)] w fun e w' => ∃ r : Bool, e = .returned (.bool r) ∧ Below w.heap.size w w' ∧ (r = true ↔ SH g) := by
  have l1 : Below w.heap.size w (w.alloc (.cells (gcs vo vs vh vr vq g.next) 27)) := Below.alloc (Below.refl _ _) (Nat.le_refl _) _
  have hy := fun j => cell_of_row _ _ j _ _ _ (heap_alloc_new w (.cells (gcs vo vs vh vr vq g.next) 27 (0, 0)))
  have y0 : (w.alloc (.cells (gcs vo vs vh vr vq g.next) 27)).cell? ⟨w.heap.size, 0, none⟩ = some vo := hy 0
  have y1 : (w.alloc (.cells (gcs vo vs vh vr vq g.next) 27)).cell? ⟨w.heap.size, 1, none⟩ = some vs := hy 1
  have y2 : (w.alloc (.cells (gcs vo vs vh vr vq g.next) 27)).cell? ⟨w.heap.size, 2, none⟩ = some vh := hy 2
  have hg1 := hg.below (l1.mono hn)
  have hbh := calls_same (rBetween_any (-1) os.length n0 vh g.hs _ hg1.hs (by omega))
  have Hg : Hid (Grd n0 (w.alloc (.cells (gcs vo vs vh vr vq g.next) 27)) vo vs vh vr vq os ts g) := hg1
  have Hs : Hid (Sln ts) := hs
  have hx := hg.ob
  obtain ⟨a, cap, rfl, -⟩ := hx
  have hx := hg.sl
  obtain ⟨b, bcap, rfl, -⟩ := hx
  have hx := hg.hs
  obtain ⟨ah, hcap, rfl, -⟩ := hx
  have htl := hs.t
  have Heol : Hid (g.obs.length = os.length) := by show _ = _; rw [hg.eo, List.length_map]
  have Hesl : Hid (g.slots.length = ts.length) := by show _ = _; rw [hg.es, List.length_map]
  have Hes : Hid (g.slots = ts.map (fun t => t.2.map (·.2))) := hg.es
  clear hg hy hg1 hs
  generalize hw1 : w.alloc (.cells (gcs (.slice a os.length cap) (.slice b ts.length bcap) (.slice ah g.hs.length hcap) vr vq g.next) 27) = w1 at *
  have e1 : w1.heap.size = w.heap.size + 1 := by rw [← hw1]; simp
  have hn1 : n0 ≤ w1.heap.size := by omega
  have HK : Hid (∀ w', Below w1.heap.size w1 w' → w'.cell? ⟨w.heap.size, 0, none⟩ = some (.slice a os.length cap) ∧ w'.cell? ⟨w.heap.size, 1, none⟩ = some (.slice b ts.length bcap)) := fun w' b' => by
    have hlt : w.heap.size < w1.heap.size := by omega
    exact ⟨(b'.cell (p := ⟨w.heap.size, 0, none⟩) hlt).trans y0, (b'.cell (p := ⟨w.heap.size, 1, none⟩) hlt).trans y1⟩
  go_enter Tryz.func62, Tryz.ntmps62
  by_cases p1 : ts.length < 1
  · have p1i : (ts.length : Int) < 1 := by omega
    have Hn : Hid (¬ SH g) := fun h => by have := h.s.t0; rw [Hesl.out] at this; omega
    clear hbh
    go_wp2
    go_ret
    first | exact ⟨false, rfl, l1, by simpa using Hn.out⟩ | exact .inl ⟨rfl, l1, Hn.out⟩
  have p1i : ¬ (ts.length : Int) < 1 := by omega
  by_cases p2 : ts.length > 8
  · have p2i : (ts.length : Int) > 8 := by omega
    have Hn : Hid (¬ SH g) := fun h => by have := h.s.t1; rw [Hesl.out] at this; omega
    clear hbh
    go_wp2
    go_ret
    first | exact ⟨false, rfl, l1, by simpa using Hn.out⟩ | exact .inl ⟨rfl, l1, Hn.out⟩
  have p2i : ¬ (ts.length : Int) > 8 := by omega
  by_cases p3 : g.hs.length > 1024
  · have p3i : (g.hs.length : Int) > 1024 := by omega
    have Hn : Hid (¬ SH g) := fun h => by have := h.h.len; omega
    clear hbh
    go_wp2
    go_ret
    first | exact ⟨false, rfl, l1, by simpa using Hn.out⟩ | exact .inl ⟨rfl, l1, Hn.out⟩
  have p3i : ¬ (g.hs.length : Int) > 1024 := by omega
  by_cases p4 : allB (-1) os.length g.hs
  case neg =>
    have hc := hbh.2 p4
    have Hn : Hid (¬ SH g) := fun h => p4 (by rw [← Heol.out]; exact h.h.all)
    clear hbh
    go_wp2_with fail
    refine hc.mono ?_
    rintro e wQ ⟨rfl, h9⟩
    rw [h9]
    clear hc h9 wQ
    go_wp2
    go_ret
    first | exact ⟨false, rfl, l1, by simpa using Hn.out⟩ | exact .inl ⟨rfl, l1, Hn.out⟩
  have hc := hbh.1 p4
  have HH : Hid (HM g) := ⟨by omega, by rw [Heol.out]; exact p4⟩
  have Hlen : Hid (1 ≤ g.slots.length ∧ g.slots.length ≤ 8) := by show _ ∧ _; rw [Hesl.out]; omega
  clear hbh
  go_wp2_with fail
  refine hc.mono ?_
  rintro e wQ ⟨rfl, h9⟩
  rw [h9]
  clear h9 wQ
  clear hc p1 p1i p2 p2i p3 p3i p4 y2
  go_wp2
  go_loopw [3] (fun v3 wr => ∃ k : Nat, k ≤ ts.length ∧ v3 = .int .i64 k ∧ Hid (Below w1.heap.size w1 wr) ∧ Hid (∀ t, t ∈ g.slots.take k → TM g.obs.length t)) (fun v3 _ => ts.length - (intOf v3).toNat)
  case atStart => exact ⟨0, Nat.zero_le _, rfl, Below.refl _ _, (fun t ht => by simp at ht : ∀ t, t ∈ g.slots.take 0 → TM g.obs.length t)⟩
  case round =>
    obtain ⟨k, hk, rfl, Hb, Hk⟩ := hrel
    obtain ⟨z0, z1⟩ := HK.out _ Hb.out
    by_cases hkl : k < ts.length
    · have hki : (k : Int) < (ts.length : Int) := by omega
      have hz : ts[k]? = some (ts[k]'hkl) := List.getElem?_eq_getElem hkl
      generalize ts[k]'hkl = x at hz
      obtain ⟨a', cap', ea, hob⟩ := (Hg.out.below (Hb.out.mono hn1)).sl
      cases ea
      obtain ⟨hp, q, off, rfl, hq, hc⟩ := hob k x hz
      have Hz : Hid (g.slots[k]? = some (x.2.map (·.2))) := by show _ = _; rw [Hes.out, List.getElem?_map, hz]; rfl
      have hxs := Hs.out.f x (List.mem_of_getElem? hz)
      have hxl := hxs.1
      have Hxs : Hid (fsum (x.2.map (·.2)) ≤ 4611686018427387904) := hxs.2
      have Hp : Hid (∀ w', Below w1.heap.size w1 w' → Frd n0 w' x.1 x.2 ∧ w'.cell? ⟨q, off + k, none⟩ = some x.1) := fun w' b' => by
        obtain ⟨_, _, eb, hob'⟩ := (Hg.out.below (b'.mono hn1)).sl
        obtain ⟨h1, _, _, h3, _, h4⟩ := hob' k x hz
        cases eb
        cases h3
        exact ⟨h1, h4⟩
      obtain ⟨ap, cp, ep, -⟩ := hp
      rw [ep] at hc Hp
      clear hob hz ep hxs
      go_wp2
      go_loopw [4, 5] (fun v4 v5 wr => ∃ f : Nat, f ≤ x.2.length ∧ v5 = .int .i64 f ∧ v4 = .int .i64 (fsum ((x.2.map (·.2)).take f)) ∧ Hid (Below w1.heap.size w1 wr) ∧ Hid (TM g.obs.length ((x.2.map (·.2)).take f))) (fun _ v5 _ => x.2.length - (intOf v5).toNat)
      case atStart => exact ⟨0, Nat.zero_le _, rfl, rfl, Hb, TM.nil _⟩
      case round =>
        obtain ⟨f, hf, rfl, rfl, Hb2, Hf⟩ := hrel
        clear z0 z1 hc
        obtain ⟨z0, z1⟩ := HK.out _ Hb2.out
        obtain ⟨hfr, hc⟩ := Hp.out _ Hb2.out
        have BW : Hid (Below w.heap.size w wr) := l1.trans (Hb2.out.mono l1.size)
        by_cases hfl : f < x.2.length
        · have hfi : (f : Int) < (x.2.length : Int) := by omega
          have hy : x.2[f]? = some (x.2[f]'hfl) := List.getElem?_eq_getElem hfl
          generalize x.2[f]'hfl = y at hy
          obtain ⟨a'', cap'', ea, hob⟩ := hfr
          cases ea
          obtain ⟨hpp, q', off', rfl, hq', hc'⟩ := hob f y hy
          have Hy : Hid ((x.2.map (·.2))[f]? = some y.2) := by show _ = _; rw [List.getElem?_map, hy]; rfl
          have e9 : fsum ((x.2.map (·.2)).take (f + 1)) = fsum ((x.2.map (·.2)).take f) + y.2.length := by rw [take_snocL Hy.out, fsum_snoc]
          have hle := fsum_take (x.2.map (·.2)) (f + 1)
          have hle2 : fsum ((x.2.map (·.2)).take f) + y.2.length ≤ 4611686018427387904 := by have := Hxs.out; omega
          have hyl : y.2.length ≤ 4611686018427387904 := Nat.le_trans (Nat.le_add_left _ _) hle2
          have hbt := fun (nn : Nat) => calls_same (rBetween_any 0 os.length n0 y.1 y.2 (wr.drewN nn) (hpp.below ⟨rfl, rfl, rfl, Nat.le_refl _, fun _ _ => rfl⟩) hyl)
          obtain ⟨ay, cy, ey, -⟩ := hpp
          rw [ey] at hc' hbt
          have He : Hid (fsum ((x.2.map (·.2)).take (f + 1)) = fsum ((x.2.map (·.2)).take f) + y.2.length) := e9
          clear e9 hle hob hy ey
          go_upto_region 12 with fail
          have Hmem : Hid ((x.2.map (·.2)) ∈ g.slots) := List.mem_of_getElem? Hz.out
          by_cases r1 : y.2.length < 1
          · have r1i : decide ((y.2.length : Int) < 1) = true := by simp; omega
            have Hn : Hid (¬ SH g) := fun h => by
              have := ((sm_tm h.s Hmem.out).ok y.2 (List.mem_of_getElem? Hy.out)).1
              omega
            clear hbt
            go_quiet (fail)
            go_wp2
            go_ret
            first | exact ⟨false, rfl, ⟨BW.out.os, BW.out.tape, BW.out.output, BW.out.size, BW.out.block⟩, by simpa using Hn.out⟩ | exact .inl ⟨rfl, ⟨BW.out.os, BW.out.tape, BW.out.output, BW.out.size, BW.out.block⟩, Hn.out⟩
          have r1i : decide ((y.2.length : Int) < 1) = false := by simp; omega
          by_cases r2 : fsum ((x.2.map (·.2)).take f) + y.2.length > 4096
          · have r2i : decide ((fsum ((x.2.map (·.2)).take f) : Int) + (y.2.length : Int) > 4096) = true := by simp; omega
            have Hn : Hid (¬ SH g) := fun h => by
              have h1 := (sm_tm h.s Hmem.out).few
              have h2 := fsum_take (x.2.map (·.2)) (f + 1)
              have h3 := He.out
              omega
            clear hbt
            go_quiet (fail)
            go_wp2
            go_ret
            first | exact ⟨false, rfl, ⟨BW.out.os, BW.out.tape, BW.out.output, BW.out.size, BW.out.block⟩, by simpa using Hn.out⟩ | exact .inl ⟨rfl, ⟨BW.out.os, BW.out.tape, BW.out.output, BW.out.size, BW.out.block⟩, Hn.out⟩
          have r2i : decide ((fsum ((x.2.map (·.2)).take f) : Int) + (y.2.length : Int) > 4096) = false := by simp; omega
          by_cases r3 : allB 0 os.length y.2
          · have Hc := fun nn => (hbt nn).1 r3
            have Hn : Hid (TM g.obs.length ((x.2.map (·.2)).take (f + 1))) := TM.snoc Hy.out Hf.out (by omega) (by omega) (by rw [Heol.out]; exact r3)
            clear hbt r3
            go_quiet ((go_at_call 114; exact Calls.quiet_of_same (Hc _)))
            clear Hc
            go_wp2
            go_roundw
            case rel => exact ⟨f + 1, by omega, by go_num, by rw [He.out, Int.natCast_add], ⟨Hb2.out.os, Hb2.out.tape, Hb2.out.output, Hb2.out.size, Hb2.out.block⟩, Hn⟩
            case measure => simp [intOf]; omega
          · have Hc := fun nn => (hbt nn).2 r3
            have Hn : Hid (¬ SH g) := fun h => r3 (by rw [← Heol.out]; exact ((sm_tm h.s Hmem.out).ok y.2 (List.mem_of_getElem? Hy.out)).2)
            clear hbt r3
            go_quiet ((go_at_call 114; exact Calls.quiet_of_same (Hc _)))
            clear Hc
            go_wp2
            go_ret
            first | exact ⟨false, rfl, ⟨BW.out.os, BW.out.tape, BW.out.output, BW.out.size, BW.out.block⟩, by simpa using Hn.out⟩ | exact .inl ⟨rfl, ⟨BW.out.os, BW.out.tape, BW.out.output, BW.out.size, BW.out.block⟩, Hn.out⟩
        · have hfi : ¬ (f : Int) < (x.2.length : Int) := by omega
          have Hn : Hid (∀ t, t ∈ g.slots.take (k + 1) → TM g.obs.length t) := fun t ht => by
            rw [take_snocL Hz.out] at ht
            rcases List.mem_append.1 ht with h9 | h9
            · exact Hk.out t h9
            · simp only [List.mem_singleton] at h9
              rw [h9]
              have h8 := Hf.out
              rw [List.take_of_length_le (by simp; omega)] at h8
              exact h8
          obtain ⟨a'', cap'', ea, -⟩ := hfr
          cases ea
          go_wp2
          go_roundw
          case rel => exact ⟨k + 1, by omega, by go_num, Hb2, Hn⟩
          case measure => simp [intOf]; omega
    · have hki : ¬ (k : Int) < (ts.length : Int) := by omega
      have Hy : Hid (SH g) := by
        have h9 := Hk.out
        rw [List.take_of_length_le (by rw [Hesl.out]; omega)] at h9
        exact ⟨⟨fun t ht => (h9 t ht).few, fun t ht => (h9 t ht).ok, Hlen.out.1, Hlen.out.2⟩, HH.out⟩
      go_wp2
      go_ret
      first | exact ⟨true, rfl, l1.trans (Hb.out.mono l1.size), by simpa using Hy.out⟩ | exact .inr ⟨rfl, l1.trans (Hb.out.mono l1.size), Hy.out⟩
end Go.Proofs.YtkekaifiahjljaaGreatDoor
