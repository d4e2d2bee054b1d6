import Derived.Test.YtckgcpoheodbcaaGreatDoorQ16
import Derived.Test.YtckgcpoheodbcaaGreatDoorQ02
import Derived.Test.YtckgcpoheodbcaaGreatDoorQ15
set_option linter.unusedVariables false
set_option maxHeartbeats 8000000
set_option maxRecDepth 20000
namespace Go.Proofs.YtckgcpoheodbcaaGreatDoor.Lt
structure Fo (par : Nat → Nat) (p q : Nat) (σ fa bs : Nat → Nat) : Prop where
 a : ∀ v, q ≤ v → v < p → Anc par (fa v) v ∧ fa v ≠ v
 b : ∀ v, q ≤ v → v < p → Anc par (fa v) (bs v) ∧ bs v ≠ fa v ∧ Anc par (bs v) v
 m : ∀ v, q ≤ v → v < p → ∀ y, Anc par (fa v) y → y ≠ fa v → Anc par y v → q ≤ y ∧ σ (bs v) ≤ σ y
section
variable {E : Nat → Nat → Prop} {par : Nat → Nat} {p : Nat} (D : Dt E par p)
include D
omit D in
theorem Fo.congr {q : Nat} {σ σ' fa bs : Nat → Nat} (h : Fo par p q σ fa bs) (e : ∀ y, q ≤ y → σ' y = σ y) : Fo par p q σ' fa bs :=
 ⟨h.a, h.b, fun v hv hp y h1 h2 h3 => by
  obtain ⟨h4, h5⟩ := h.m v hv hp y h1 h2 h3
  obtain ⟨k1, k2, k3⟩ := h.b v hv hp
  rw [e y h4, e _ (h.m v hv hp _ k1 k2 k3).1]
  exact ⟨h4, h5⟩⟩
theorem Dt.fo_link {q : Nat} {σ fa bs : Nat → Nat} (h : Fo par p (q + 1) σ fa bs) (h0 : q ≠ 0) (hq : q < p) : Fo par p q σ (fun v => if v = q then par q else fa v) (fun v => if v = q then q else bs v) := by
 have hpl := D.pl q h0 hq
 refine ⟨fun v hv hp => ?_, fun v hv hp => ?_, fun v hv hp y h1 h2 h3 => ?_⟩
 ·by_cases e : v = q
  ·rw [if_pos e, e]; exact ⟨.up h0 (.refl _), by omega⟩
  ·rw [if_neg e]; exact h.a v (by omega) hp
 ·by_cases e : v = q
  ·rw [if_pos e, if_pos e, e]; exact ⟨.up h0 (.refl _), by omega, .refl _⟩
  ·rw [if_neg e, if_neg e]; exact h.b v (by omega) hp
 ·by_cases e : v = q
  ·rw [if_pos e] at h1 h2
   rw [if_pos e]
   rw [e] at h3
   have h4 : y = q := by
    by_cases h4 : y = q
    ·exact h4
    ·obtain ⟨-, h5⟩ := h3.par_ h4
     have := D.le (by omega) h5
     have := D.le (by omega) h1
     omega
   rw [h4]; exact ⟨Nat.le_refl _, Nat.le_refl _⟩
  ·rw [if_neg e] at h1 h2
   rw [if_neg e]
   have := h.m v (by omega) hp y h1 h2 h3
   exact ⟨by omega, this.2⟩
theorem Dt.fo_short {q v : Nat} {σ fa bs : Nat → Nat} (h : Fo par p q σ fa bs) (hv : q ≤ v) (hp : v < p) (hf : q ≤ fa v) :
  Fo par p q σ (fun y => if y = v then fa (fa v) else fa y) (fun y => if y = v then (if σ (bs (fa v)) < σ (bs v) then bs (fa v) else bs v) else bs y) := by
 obtain ⟨a1, a2⟩ := h.a v hv hp
 have hfl := D.lt hp a1 a2
 obtain ⟨c1, c2⟩ := h.a (fa v) hf (by omega)
 obtain ⟨b1, b2, b3⟩ := h.b v hv hp
 obtain ⟨d1, d2, d3⟩ := h.b (fa v) hf (by omega)
 have hfl2 := D.lt (by omega) c1 c2
 refine ⟨fun y hy hyp => ?_, fun y hy hyp => ?_, fun y hy hyp z h1 h2 h3 => ?_⟩
 ·by_cases e : y = v
  ·rw [if_pos e, e]; exact ⟨c1.trans a1, by omega⟩
  ·rw [if_neg e]; exact h.a y hy hyp
 ·by_cases e : y = v
  ·rw [if_pos e, if_pos e, e]
   split
   ·exact ⟨d1, d2, d3.trans a1⟩
   ·refine ⟨c1.trans b1, fun e2 => ?_, b3⟩
    have := D.le (by have := D.le hp b3; omega) b1
    omega
  ·rw [if_neg e, if_neg e]; exact h.b y hy hyp
 ·by_cases e : y = v
  ·rw [if_pos e] at h1 h2
   rw [if_pos e]
   rw [e] at h3
   have key : q ≤ z ∧ (σ (bs (fa v)) ≤ σ z ∨ σ (bs v) ≤ σ z) := by
    rcases Nat.lt_or_ge (fa v) z with h4 | h4
    ·have := h.m v hv hp z (D.chain hp a1 h3 (by omega)) (by omega) h3
     exact ⟨this.1, .inr this.2⟩
    ·have := h.m (fa v) hf (by omega) z h1 h2 (D.chain hp h3 a1 h4)
     exact ⟨this.1, .inl this.2⟩
   refine ⟨key.1, ?_⟩
   split
   ·omega
   ·omega
  ·rw [if_neg e] at h1 h2
   rw [if_neg e]
   exact h.m y hy hyp z h1 h2 h3
theorem Dt.fo_low {q v : Nat} {σ fa bs : Nat → Nat} (h : Fo par p q σ fa bs) (hv : q ≤ v) (hp : v < p) (hf : fa v < q) : q ≤ bs v ∧ Anc par (bs v) v ∧ ∀ y, q ≤ y → Anc par y v → σ (bs v) ≤ σ y := by
 obtain ⟨a1, a2⟩ := h.a v hv hp
 obtain ⟨b1, b2, b3⟩ := h.b v hv hp
 refine ⟨(h.m v hv hp _ b1 b2 b3).1, b3, fun y h1 h2 => (h.m v hv hp y (D.chain hp a1 h2 (by omega)) (by omega) h2).2⟩
omit D in
def Ch (par : Nat → Nat) (s v c : Nat) : Prop := c ≠ 0 ∧ par c = s ∧ Anc par c v
omit D in
theorem ch_ex {s v : Nat} (h : Anc par s v) (hne : s ≠ v) : ∃ c, Ch par s v c := by
 induction h with
 | refl => exact absurd rfl hne
 | @up v h0 ha ih =>
  by_cases e : s = par v
  ·exact ⟨v, h0, e.symm, .refl v⟩
  ·obtain ⟨c, h1, h2, h3⟩ := ih e
   exact ⟨c, h1, h2, .up h0 h3⟩
def Gs (par : Nat → Nat) (σ : Nat → Nat) (w g : Nat) : Prop := ∃ u, Anc par (σ w) u ∧ u ≠ σ w ∧ Anc par u w ∧ (∀ y, Anc par (σ w) y → y ≠ σ w → Anc par y w → σ u ≤ σ y) ∧ ((σ u = σ w ∧ g = σ w) ∨ (σ u < σ w ∧ g = u))
structure Ma (E : Nat → Nat → Prop) (par : Nat → Nat) (p q : Nat) (σ : Nat → Nat) (wt : Nat → List Nat) (tg : Nat → Nat) : Prop where
 lo : ∀ v, v < q → σ v = v
 hi : ∀ v, q ≤ v → v < p → Sp E v (σ v) ∧ ∀ x, Sp E v x → σ v ≤ x
 wi : ∀ s o, o ∈ wt s → q ≤ o ∧ o < p ∧ σ o = s ∧ ∃ c, Ch par s o c ∧ c < q
 wo : ∀ o, q ≤ o → o < p → (∃ c, Ch par (σ o) o c ∧ c < q ∧ o ∈ wt (σ o)) ∨ (∃ c, Ch par (σ o) o c ∧ q ≤ c ∧ Gs par σ o (tg o))
 nd : ∀ s, (wt s).Nodup
 t0 : tg 0 = 0
omit D in
theorem ma_start : Ma E par p p (fun v => v) (fun _ => []) (fun _ => 0) :=
 ⟨fun _ _ => rfl, fun v h1 h2 => by omega, fun s o h => by simp at h, fun o h1 h2 => by omega, fun _ => List.nodup_nil, rfl⟩
theorem Dt.ma_wait {q : Nat} {σ : Nat → Nat} {wt : Nat → List Nat} {tg : Nat → Nat} (h : Ma E par p (q + 1) σ wt tg) (h0 : q ≠ 0) (hq : q < p) {s : Nat} (hs : Sp E q s ∧ ∀ x, Sp E q x → s ≤ x) {o : Nat} (ho : o ∈ (if par q = s then wt (par q) ++ [q] else wt (par q))) :
  q ≤ o ∧ o < p ∧ (if o = q then s else σ o) = par q ∧ Anc par q o := by
 have hpl := D.pl q h0 hq
 have base : o ∈ wt (par q) → q ≤ o ∧ o < p ∧ (if o = q then s else σ o) = par q ∧ Anc par q o := fun h1 => by
  obtain ⟨h2, h3, h4, c, ⟨c1, c2, c3⟩, c4⟩ := h.wi _ _ h1
  refine ⟨by omega, h3, by rw [if_neg (by omega)]; exact h4, ?_⟩
  have h5 := D.iv c q o h3 c3 (by omega) (by omega)
  by_cases e : c = q
  ·exact e ▸ c3
  ·obtain ⟨-, h6⟩ := h5.par_ e
   have h7 := D.le (by omega) h6
   have h8 := D.pl c c1 (by omega)
   omega
 by_cases e : par q = s
 ·rw [if_pos e] at ho
  rcases List.mem_append.1 ho with h1 | h1
  ·exact base h1
  ·have : o = q := by simpa using h1
   subst this
   exact ⟨Nat.le_refl _, hq, by rw [if_pos rfl]; exact e.symm, .refl _⟩
 ·rw [if_neg e] at ho
  exact base ho
theorem Dt.ma_guess {q : Nat} (h0 : q ≠ 0) (hq : q < p) {σ : Nat → Nat} {o u : Nat} (h1 : q ≤ o) (h2 : o < p) (h3 : σ o = par q) (h4 : Anc par q o) (u1 : q ≤ u) (u2 : Anc par u o) (u3 : ∀ y, q ≤ y → Anc par y o → σ u ≤ σ y) : Gs par σ o (if σ u < σ o then u else σ o) := by
 have hpl := D.pl q h0 hq
 have hpq : Anc par (par q) q := .up h0 (.refl _)
 refine ⟨u, by rw [h3]; exact hpq.trans (D.chain h2 h4 u2 u1), by omega, u2, fun y y1 y2 y3 => ?_, ?_⟩
 ·rw [h3] at y1 y2
  refine u3 y ?_ y3
  rcases Nat.lt_or_ge y q with h5 | h5
  ·have h6 := D.chain h2 y3 h4 (by omega)
   obtain ⟨-, h7⟩ := h6.par_ (by omega)
   have := D.le (by omega) h7
   have := D.le (by omega) y1
   omega
  ·exact h5
 ·have h5 := u3 o h1 (.refl o)
  by_cases h6 : σ u < σ o
  ·rw [if_pos h6]; exact .inr ⟨h6, rfl⟩
  ·rw [if_neg h6]; exact .inl ⟨by omega, rfl⟩
theorem Gs.congr {σ σ' : Nat → Nat} {q w g : Nat} (hw : w < p) (hσ : ∀ v, q < v → σ' v = σ v) (hqw : q < w) (hs : Anc par (σ w) w ∧ σ w ≠ w) {c : Nat} (hc : Ch par (σ w) w c) (hcq : q < c) (h : Gs par σ w g) : Gs par σ' w g := by
 obtain ⟨u, u1, u2, u3, u4, u5⟩ := h
 have big : ∀ y, Anc par (σ w) y → y ≠ σ w → Anc par y w → q < y := fun y y1 y2 y3 => by
  rcases Nat.lt_or_ge y c with h1 | h1
  ·obtain ⟨c1, c2, c3⟩ := hc
   have h2 := D.chain hw y3 c3 (by omega)
   obtain ⟨-, h3⟩ := h2.par_ (by omega)
   rw [c2] at h3
   have := D.le (by have := D.le hw hs.1; omega) h3
   have := D.le (by have := D.le hw y3; omega) y1
   omega
  ·omega
 have hu := big u u1 u2 u3
 refine ⟨u, by rw [hσ w hqw]; exact u1, by rw [hσ w hqw]; exact u2, u3, fun y y1 y2 y3 => ?_, by rw [hσ w hqw, hσ u hu]; exact u5⟩
 rw [hσ w hqw] at y1 y2
 rw [hσ u hu, hσ y (big y y1 y2 y3)]
 exact u4 y y1 y2 y3
end
section
variable {E : Nat → Nat → Prop} {par : Nat → Nat} {p : Nat} (D : Dt E par p)
include D
theorem Dt.sp_low {q s : Nat} (h0 : q ≠ 0) (hq : q < p) (hs : Sp E q s ∧ ∀ x, Sp E q x → s ≤ x) : s < q ∧ Anc par s q := by
 have h1 := hs.2 _ (.last (D.pe q h0 hq))
 have h2 := D.pl q h0 hq
 exact ⟨by omega, D.sp_anc hs.1 (by omega)⟩
theorem Dt.ma_step {q : Nat} {σ : Nat → Nat} {wt : Nat → List Nat} {tg : Nat → Nat} (h : Ma E par p (q + 1) σ wt tg) (h0 : q ≠ 0) (hq : q < p) {s : Nat} (hs : Sp E q s ∧ ∀ x, Sp E q x → s ≤ x) {tg' : Nat → Nat}
  (g1 : ∀ o, o ∈ (if par q = s then wt (par q) ++ [q] else wt (par q)) → Gs par (fun v => if v = q then s else σ v) o (tg' o)) (g2 : ∀ o, o ∉ (if par q = s then wt (par q) ++ [q] else wt (par q)) → tg' o = tg o) :
  Ma E par p q (fun v => if v = q then s else σ v) (fun x => if x = par q then [] else if x = s then wt x ++ [q] else wt x) tg' := by
 obtain ⟨hsl, hsa⟩ := D.sp_low h0 hq hs
 have hpl := D.pl q h0 hq
 have hw := fun o ho => D.ma_wait h h0 hq hs (o := o) ho
 refine ⟨fun v hv => ?_, fun v hv hp => ?_, fun x o ho => ?_, fun o h1 h2 => ?_, fun x => ?_, ?_⟩
 ·rw [if_neg (by omega)]; exact h.lo v (by omega)
 ·by_cases e : v = q
  ·rw [if_pos e, e]; exact hs
  ·rw [if_neg e]; exact h.hi v (by omega) hp
 ·by_cases e : x = par q
  ·rw [if_pos e] at ho; simp at ho
  ·rw [if_neg e] at ho
   have base : o ∈ wt x → q ≤ o ∧ o < p ∧ (if o = q then s else σ o) = x ∧ ∃ c, Ch par x o c ∧ c < q := fun h1 => by
    obtain ⟨h2, h3, h4, c, hc, h5⟩ := h.wi _ _ h1
    refine ⟨by omega, h3, by rw [if_neg (by omega)]; exact h4, c, hc, ?_⟩
    have h6 : c ≠ q := fun e2 => e (by rw [← hc.2.1, e2])
    omega
   by_cases e2 : x = s
   ·rw [if_pos e2] at ho
    rcases List.mem_append.1 ho with h1 | h1
    ·exact base h1
    ·have : o = q := by simpa using h1
     subst this
     obtain ⟨c, hc⟩ := ch_ex hsa (by omega)
     refine ⟨Nat.le_refl _, hq, by rw [if_pos rfl]; exact e2.symm, c, e2 ▸ hc, ?_⟩
     have h6 : c ≠ o := fun e3 => e (by rw [e2, ← hc.2.1, e3])
     have := D.le hq hc.2.2
     omega
   ·rw [if_neg e2] at ho
    exact base ho
 ·by_cases hin : o ∈ (if par q = s then wt (par q) ++ [q] else wt (par q))
  ·obtain ⟨k1, k2, k3, k4⟩ := hw o hin
   exact .inr ⟨q, by show Ch par (if o = q then s else σ o) o q; rw [k3]; exact ⟨h0, rfl, k4⟩, Nat.le_refl _, g1 o hin⟩
  ·rw [g2 o hin]
   by_cases e : o = q
   ·subst e
    have hne : par o ≠ s := fun e2 => hin (by rw [if_pos e2]; simp)
    obtain ⟨c, hc⟩ := ch_ex hsa (by omega)
    refine .inl ⟨c, by rw [if_pos rfl]; exact hc, ?_, ?_⟩
    ·have h6 : c ≠ o := fun e3 => hne (by rw [← hc.2.1, e3])
     have := D.le hq hc.2.2
     omega
    ·rw [if_pos rfl, if_neg (fun e2 => hne e2.symm), if_pos rfl]
     simp
   ·have hgt : q < o := by omega
    rcases h.wo o (by omega) h2 with ⟨c, hc, hcq, hwo⟩ | ⟨c, hc, hcq, hg⟩
    ·have hne : σ o ≠ par q := fun e2 => hin (by
      rw [e2] at hwo
      split
      ·exact List.mem_append_left _ hwo
      ·exact hwo)
     have h6 : c ≠ q := fun e3 => hne (by rw [← hc.2.1, e3])
     refine .inl ⟨c, by rw [if_neg e]; exact hc, by omega, ?_⟩
     rw [if_neg e, if_neg hne]
     split
     ·exact List.mem_append_left _ hwo
     ·exact hwo
    ·have h7 := D.sp_low (q := o) (by omega) h2 (h.hi o (by omega) h2)
     refine .inr ⟨c, by rw [if_neg e]; exact hc, by omega, Gs.congr D h2 (fun v hv => if_neg (by omega)) hgt ⟨h7.2, by omega⟩ hc (by omega) hg⟩
 ·by_cases e : x = par q
  ·rw [if_pos e]; exact List.nodup_nil
  ·rw [if_neg e]
   split
   ·rw [List.nodup_append]
    refine ⟨h.nd x, by simp, fun a ha b hb e2 => ?_⟩
    have hb' : b = q := by simpa using hb
    have := (h.wi x a ha).1
    omega
   ·exact h.nd x
 ·rw [g2 0 (fun h1 => by have := (hw 0 h1).1; omega)]
  exact h.t0
omit D in
theorem ma_end {σ : Nat → Nat} {wt : Nat → List Nat} {tg : Nat → Nat} (h : Ma E par p 1 σ wt tg) : Sem E p σ ∧ ∀ w, w ≠ 0 → w < p → Gs par σ w (tg w) := by
 refine ⟨⟨fun w h0 hw => (h.hi w (by omega) hw).1, fun w h0 hw => (h.hi w (by omega) hw).2⟩, fun w h0 hw => ?_⟩
 rcases h.wo w (by omega) hw with ⟨c, hc, hcq, -⟩ | ⟨-, -, -, h1⟩
 ·exact absurd (by omega) hc.1
 ·exact h1
structure La (par : Nat → Nat) (p k : Nat) (σ tg ft : Nat → Nat) : Prop where
 dn : ∀ w, w ≠ 0 → w < k → ∃ u, Anc par (σ w) u ∧ u ≠ σ w ∧ Anc par u w ∧ (∀ y, Anc par (σ w) y → y ≠ σ w → Anc par y w → σ u ≤ σ y) ∧ ((σ u = σ w ∧ ft w = σ w) ∨ (σ u < σ w ∧ u ≠ w ∧ ft w = ft u))
 up : ∀ w, k ≤ w → ft w = tg w
 z : ft 0 = 0
omit D in
theorem La.start {σ tg : Nat → Nat} (h : tg 0 = 0) : La par p 0 σ tg tg := ⟨fun w h0 h => by omega, fun _ _ => rfl, h⟩
theorem Dt.la_step {k : Nat} {σ tg ft : Nat → Nat} (h : La par p k σ tg ft) (hk : k < p) (hσ : σ 0 = 0) (hs : ∀ w, w ≠ 0 → w < p → σ w < w) (hg : ∀ w, w ≠ 0 → w < p → Gs par σ w (tg w)) : tg k ≤ k ∧ La par p (k + 1) σ tg (fun v => if v = k then (if tg k ≠ σ k then ft (tg k) else tg k) else ft v) := by
 by_cases h0 : k = 0
 ·subst h0
  have ht : tg 0 = 0 := by rw [← h.up 0 (Nat.le_refl _)]; exact h.z
  refine ⟨by omega, fun w w0 hw => by omega, fun w hw => by rw [if_neg (by omega)]; exact h.up w (by omega), ?_⟩
  rw [if_pos rfl, if_neg (by rw [ht, hσ]; exact fun h => h rfl)]
  exact ht
 ·obtain ⟨u, u1, u2, u3, u4, u5⟩ := hg k h0 hk
  have hsk := hs k h0 hk
  have hul := D.le hk u3
  have hus : σ k < u := D.lt (by omega) u1 (fun e => u2 e.symm)
  have htk : tg k ≤ k := by rcases u5 with ⟨-, h1⟩ | ⟨-, h1⟩ <;> omega
  refine ⟨htk, fun w w0 hw => ?_, fun w hw => by rw [if_neg (by omega)]; exact h.up w (by omega), by rw [if_neg (by omega)]; exact h.z⟩
  by_cases e : w = k
  ·subst e
   refine ⟨u, u1, u2, u3, u4, ?_⟩
   rcases u5 with ⟨h1, h2⟩ | ⟨h1, h2⟩
   ·refine .inl ⟨h1, ?_⟩
    rw [if_pos rfl, if_neg (fun h => h h2)]
    exact h2
   ·have huw : u ≠ w := fun e2 => by rw [e2] at h1; omega
    refine .inr ⟨h1, huw, ?_⟩
    rw [if_pos rfl, if_pos (by rw [h2]; exact u2), if_neg huw, h2]
  ·obtain ⟨u', v1, v2, v3, v4, v5⟩ := h.dn w w0 (by omega)
   have hu' := D.le (by omega) v3
   refine ⟨u', v1, v2, v3, v4, ?_⟩
   rw [if_neg e, if_neg (by omega)]
   exact v5
omit D in
theorem La.idm {σ tg ft : Nat → Nat} (h : La par p p σ tg ft) : Idm par p σ ft := fun w h0 hw => h.dn w h0 hw
end
inductive Rv (W : Nat → List Nat) (d : Nat) : Nat → Prop
 | root {y : Nat} : y ∈ W 0 → y ≠ d → Rv W d y
 | step {u y : Nat} : Rv W d u → y ∈ W u → y ≠ d → Rv W d y
def Ov (W : Nat → List Nat) (d x : Nat) : Prop := d ≠ 0 ∧ x ≠ 0 ∧ x ≠ d ∧ Rv W 0 x ∧ Rv W 0 d ∧ ¬ Rv W d x
def Ids (W : Nat → List Nat) (i x : Nat) : Prop := (i = 0 ∨ Ov W i x) ∧ ∀ d, Ov W d x → d = i ∨ Ov W d i
variable {W : Nat → List Nat}
theorem Ov.anti {d e : Nat} (h : Ov W d e) : ¬ Ov W e d := fun k => by
 obtain ⟨d0, e0, hne, re, rd, h1⟩ := h
 have h2 := k.2.2.2.2.2
 have key : ∀ v, Rv W 0 v → (v ≠ d ∧ v ≠ e ∧ Rv W d v ∧ Rv W e v) := by
  intro v hv
  induction hv with
  | @root y hy _ =>
   have a : y ≠ d := fun e1 => h2 (.root (e1 ▸ hy) (fun e2 => hne e2.symm))
   have b : y ≠ e := fun e1 => h1 (.root (e1 ▸ hy) hne)
   exact ⟨a, b, .root hy a, .root hy b⟩
  | @step u y _ hy _ ih =>
   obtain ⟨-, -, i1, i2⟩ := ih
   have a : y ≠ d := fun e1 => h2 (.step i2 (e1 ▸ hy) (fun e2 => hne e2.symm))
   have b : y ≠ e := fun e1 => h1 (.step i1 (e1 ▸ hy) hne)
   exact ⟨a, b, .step i1 hy a, .step i2 hy b⟩
 exact (key e re).2.1 rfl
theorem Ov.trans {a b c : Nat} (h : Ov W a b) (k : Ov W b c) : Ov W a c := by
 obtain ⟨a0, b0, hne, rb, ra, h1⟩ := h
 obtain ⟨-, c0, hne2, rc, -, h2⟩ := k
 have h3 : ¬ Rv W a c := fun hac => by
  have key : ∀ v, Rv W a v → Rv W b v := by
   intro v hv
   induction hv with
   | @root y hy hya =>
    exact .root hy (fun e => h1 (e ▸ .root hy hya))
   | @step u y hu hy hya ih =>
    exact .step ih hy (fun e => h1 (e ▸ .step hu hy hya))
  exact h2 (key c hac)
 refine ⟨a0, c0, fun e => ?_, rc, ra, h3⟩
 subst e
 exact Ov.anti (W := W) (d := c) (e := b) ⟨a0, b0, hne, rb, ra, h1⟩ ⟨b0, c0, hne2, rc, rb, h2⟩
theorem Ov.chain {d e x : Nat} (h : Ov W d x) (k : Ov W e x) (hne : d ≠ e) : Ov W d e ∨ Ov W e d := by
 obtain ⟨d0, x0, -, rx, rd, h1⟩ := h
 obtain ⟨e0, -, -, -, re, h2⟩ := k
 by_cases h3 : Rv W d e
 ·by_cases h4 : Rv W e d
  ·exfalso
   have key : ∀ v, Rv W 0 v → Rv W d v ∨ Rv W e v := by
    intro v hv
    induction hv with
    | @root y hy _ =>
     by_cases e1 : y = d
     ·exact .inr (e1 ▸ h4)
     ·exact .inl (.root hy e1)
    | @step u y _ hy _ ih =>
     rcases ih with i | i
     ·by_cases e1 : y = d
      ·exact .inr (e1 ▸ h4)
      ·exact .inl (.step i hy e1)
     ·by_cases e1 : y = e
      ·exact .inl (e1 ▸ h3)
      ·exact .inr (.step i hy e1)
   rcases key x rx with i | i
   ·exact h1 i
   ·exact h2 i
  ·exact .inr ⟨e0, d0, hne, rd, re, h4⟩
 ·exact .inl ⟨d0, e0, fun e1 => hne e1.symm, re, rd, h3⟩
section
variable {ord : List Nat} {par : Nat → Nat} (D : Df W ord par [])
include D
theorem Df.inj {u v a : Nat} (hu : ord[u]? = some a) (hv : ord[v]? = some a) : u = v := by
 obtain ⟨h1, h2⟩ := List.getElem?_eq_some_iff.1 hu
 obtain ⟨h3, h4⟩ := List.getElem?_eq_some_iff.1 hv
 have h5 := D.nd
 unfold List.Nodup at h5
 rw [List.pairwise_iff_getElem] at h5
 rcases Nat.lt_trichotomy u v with h6 | h6 | h6
 ·exact absurd (h2.trans h4.symm) (h5 u v h1 h3 h6)
 ·exact h6
 ·exact absurd (h4.trans h2.symm) (h5 v u h3 h1 h6)
theorem Df.closed {u a t : Nat} (hu : ord[u]? = some a) (ht : t ∈ W a) : ∃ v : Nat, ord[v]? = some t := by
 rcases D.i3 u a hu t ht with h | h
 ·exact List.getElem?_of_mem h
 ·simp at h
theorem Df.met (hw : ∀ x y, y ∈ W x → y ≠ 0) : ∀ (v : Nat) x, ord[v]? = some x → v ≠ 0 → Rv W 0 x := by
 intro v
 induction v using Nat.strongRecOn with
 | _ v ih =>
  intro x hx h0
  have hv := (List.getElem?_eq_some_iff.1 hx).1
  obtain ⟨a, b, h1, h2, h3⟩ := D.d.pe v h0 hv
  rw [hx] at h2
  cases h2
  by_cases h4 : par v = 0
  ·rw [h4, D.z] at h1
   cases h1
   exact .root h3 (hw 0 x h3)
  ·exact .step (ih _ (D.d.pl v h0 hv) a h1 h4) h3 (hw a x h3)
theorem Df.meets {x : Nat} (h : Rv W 0 x) : ∃ v : Nat, ord[v]? = some x := by
 induction h with
 | root hy _ => exact D.closed D.z hy
 | step _ hy _ ih =>
  obtain ⟨v, hv⟩ := ih
  exact D.closed hv hy
theorem Df.av_rv {pd d : Nat} (hd : ord[pd]? = some d) {v : Nat} (h : Av (Ed W ord) pd v) : v = 0 ∨ ∃ x, ord[v]? = some x ∧ Rv W d x := by
 induction h with
 | root => exact .inl rfl
 | @step u v _ e hne ih =>
  obtain ⟨a, b, h1, h2, h3⟩ := e
  have hbd : b ≠ d := fun e => hne (D.inj h2 (e ▸ hd))
  refine .inr ⟨b, h2, ?_⟩
  rcases ih with h4 | ⟨x, h4, h5⟩
  ·rw [h4, D.z] at h1
   cases h1
   exact .root h3 hbd
  ·rw [h1] at h4
   cases h4
   exact .step h5 h3 hbd
theorem Df.rv_av {pd d : Nat} (hd : ord[pd]? = some d) (h0 : pd ≠ 0) {x : Nat} (h : Rv W d x) : ∃ v : Nat, ord[v]? = some x ∧ Av (Ed W ord) pd v := by
 induction h with
 | @root y hy hne =>
  obtain ⟨v, hv⟩ := D.closed D.z hy
  refine ⟨v, hv, .step (.root h0) ⟨0, y, D.z, hv, hy⟩ (fun e => ?_)⟩
  rw [e, hd] at hv
  cases hv
  exact hne rfl
 | @step u y _ hy hne ih =>
  obtain ⟨w, hw, ha⟩ := ih
  obtain ⟨v, hv⟩ := D.closed hw hy
  refine ⟨v, hv, .step ha ⟨u, y, hw, hv, hy⟩ (fun e => ?_)⟩
  rw [e, hd] at hv
  cases hv
  exact hne rfl
theorem Df.ids (hw : ∀ x y, y ∈ W x → y ≠ 0) {S I : Nat → Nat} (H : Sem (Ed W ord) ord.length S) (K : Idm par ord.length S I) {w x i : Nat} (h0 : w ≠ 0) (hx : ord[w]? = some x) (hi : ord[I w]? = some i) : Ids W i x := by
 have hwp := (List.getElem?_eq_some_iff.1 hx).1
 obtain ⟨i1, i2, i3⟩ := D.d.idom H K w h0 hwp
 obtain ⟨s1, s2⟩ := D.d.sem_anc H h0 hwp
 have hiw : I w < w := by have := D.d.le (by omega) i1; omega
 have nz : ∀ {v a : Nat}, ord[v]? = some a → v ≠ 0 → a ≠ 0 := fun {v a} ha hv e => hv (D.inj ha (e ▸ D.z))
 have rx := D.met hw w x hx h0
 refine ⟨?_, fun d hd => ?_⟩
 ·by_cases e : I w = 0
  ·rw [e, D.z] at hi
   cases hi
   exact .inl rfl
  ·refine .inr ⟨nz hi e, nz hx h0, fun e2 => ?_, rx, D.met hw _ i hi e, fun h => ?_⟩
   ·have := D.inj hx (e2 ▸ hi); omega
   ·obtain ⟨v, hv, ha⟩ := D.rv_av hi e h
    have := D.inj hv hx
    subst this
    exact i2 e ha
 ·obtain ⟨pd, hpd⟩ := D.meets hd.2.2.2.2.1
  have hpd0 : pd ≠ 0 := fun e => by rw [e, D.z] at hpd; cases hpd; exact hd.1 rfl
  by_cases e : pd = I w
  ·rw [e, hi] at hpd
   cases hpd
   exact .inl rfl
  ·have hpw : pd ≠ w := fun e2 => by rw [e2, hx] at hpd; cases hpd; exact hd.2.2.1 rfl
   have hnw : ¬ Av (Ed W ord) pd w := fun ha => by
    rcases D.av_rv hpd ha with h1 | ⟨y, h1, h2⟩
    ·exact h0 h1
    ·rw [hx] at h1
     cases h1
     exact hd.2.2.2.2.2 h2
   have hni : ¬ Av (Ed W ord) pd (I w) := fun ha => hnw (i3 pd hpd0 e hpw ha)
   have hI0 : I w ≠ 0 := fun e2 => hni (by rw [e2]; exact .root hpd0)
   refine .inr ⟨hd.1, nz hi hI0, fun e2 => e (D.inj hpd (e2 ▸ hi)), D.met hw _ i hi hI0, hd.2.2.2.2.1, fun h => ?_⟩
   obtain ⟨v, hv, ha⟩ := D.rv_av hpd hpd0 h
   have := D.inj hv hi
   subst this
   exact hni ha
end
end Go.Proofs.YtckgcpoheodbcaaGreatDoor.Lt
namespace Go.Proofs.YtckgcpoheodbcaaGreatDoor
open Go.RowKit Go.Shelf Go.Proofs.YtckgcpoheodbcaaGreatDoor.Lt
structure Fy (w : World) (b m : Nat) (f : Nat → Int) : Prop where
 ex : ∃ cs, w.heap[b]? = some (.cells cs 3 (0, 0)) ∧ m ≤ cs.size ∧ ∀ x, x < m → cs[x]? = some (.int .i64 (f x))
theorem Fy.lt {w : World} {b m : Nat} {f : Nat → Int} (h : Fy w b m f) : b < w.heap.size := by
 obtain ⟨cs, h1, -⟩ := h.ex
 exact Kg.heap_lt h1
theorem Fy.cell {w : World} {b m : Nat} {f : Nat → Int} (h : Fy w b m f) {x : Nat} (hx : x < m) : w.cell? ⟨b, x, none⟩ = some (.int .i64 (f x)) := by
 obtain ⟨cs, h1, -, h3⟩ := h.ex
 exact (Kg.heap_cell h1 x).trans (h3 x hx)
theorem Fy.frozen {w : World} {b m : Nat} {f : Nat → Int} (h : Fy w b m f) (x : Nat) : w.frozen? ⟨b, x, none⟩ = false := by
 obtain ⟨cs, h1, -⟩ := h.ex
 exact Kg.heap_frozen h1 x
theorem Fy.touch {w w' : World} {b m : Nat} {f : Nat → Int} {F : List Nat} (h : Fy w b m f) (ht : Kg.Touch F w w') (hF : b ∉ F) : Fy w' b m f := by
 obtain ⟨cs, h1, h2, h3⟩ := h.ex
 exact ⟨cs, (ht.block _ (Kg.heap_lt h1) hF).trans h1, h2, h3⟩
theorem Fy.set {w : World} {b m : Nat} {f : Nat → Int} (h : Fy w b m f) {x : Nat} (hx : x < m) (v : Int) : Fy (w.setCell ⟨b, x, none⟩ (.int .i64 v)) b m (fun y => if y = x then v else f y) := by
 obtain ⟨cs, h1, h2, h3⟩ := h.ex
 refine ⟨cs.setIfInBounds x (.int .i64 v), Kg.heap_set h1 x _, by simpa using h2, fun y hy => ?_⟩
 rw [Array.getElem?_setIfInBounds]
 by_cases e : x = y
 ·subst e
  rw [if_pos rfl, if_pos (by omega), if_pos rfl]
 ·rw [if_neg e, if_neg (fun h => e h.symm)]
  exact h3 y hy
theorem Fy.congr {w : World} {b m : Nat} {f f' : Nat → Int} (h : Fy w b m f) (e : ∀ x, x < m → f' x = f x) : Fy w b m f' := by
 obtain ⟨cs, h1, h2, h3⟩ := h.ex
 exact ⟨cs, h1, h2, fun x hx => by rw [e x hx]; exact h3 x hx⟩
theorem Fz.fy {w : World} {b m : Nat} {f : Nat → Int} (h : Fz w b m f) : Fy w b m f := by
 obtain ⟨cs, h1, h2, h3⟩ := h.ex
 exact ⟨cs, h1, by omega, h3⟩
theorem Il.fy {w : World} {base : Nat} {v : Value} {l : List Int} (h : Il w base v l) (h0 : l ≠ []) {f : Nat → Int} (hf : ∀ (x : Nat) z, l[x]? = some z → z = f x) : ∃ b cap, v = .slice (some ⟨b, 0, none⟩) l.length cap ∧ base ≤ b ∧ Fy w b l.length f := by
 rcases h.2 with ⟨-, h1⟩ | ⟨b, cap, cur, rfl, hb, hg, hn, hm, hs, ht⟩
 ·exact absurd (List.eq_nil_of_length_eq_zero h1) h0
 ·refine ⟨b, cap, rfl, hb, cur, hg, by omega, fun x hx => ?_⟩
  have h2 : (cur.toList.take (l.length * 1))[x]? = some (.int .i64 (l[x]'hx)) := by rw [ht, Kg.ints, List.getElem?_map, List.getElem?_eq_getElem hx]; rfl
  rw [List.getElem?_take, if_pos (by omega), Array.getElem?_toList] at h2
  rw [h2, hf x _ (List.getElem?_eq_getElem hx)]
def abv (q : Nat) (fa : Nat → Nat) (v : Nat) : Int := if v < q then -1 else (fa v : Int)
def bst (q : Nat) (bs : Nat → Nat) (v : Nat) : Int := if v < q then (v : Int) else (bs v : Int)
structure Frs (w : World) (B fb p sb ab bb : Nat) (sc ac bc : Nat) (tv : Value) (l : List Int) (sf af bf : Nat → Int) : Prop where
 h : w.heap[fb]? = some (.cells #[.slice (some ⟨sb, 0, none⟩) p sc, .slice (some ⟨ab, 0, none⟩) p ac, .slice (some ⟨bb, 0, none⟩) p bc, tv] 155 (0, 0))
 s : Fy w sb p sf
 a : Fy w ab p af
 b : Fy w bb p bf
 t : Il w B tv l
 sa : sb ≠ ab
 sbb : sb ≠ bb
 abb : ab ≠ bb
 ts : ∀ k, tv.ownBlock = some k → k ≠ sb ∧ k ≠ ab ∧ k ≠ bb
 lo : B ≤ fb ∧ B ≤ sb ∧ B ≤ ab ∧ B ≤ bb
variable {w : World} {B fb p sb ab bb sc ac bc : Nat} {tv : Value} {l : List Int} {sf af bf : Nat → Int}
theorem Frs.ne (h : Frs w B fb p sb ab bb sc ac bc tv l sf af bf) : fb ≠ sb ∧ fb ≠ ab ∧ fb ≠ bb ∧ ∀ k, tv.ownBlock = some k → k ≠ fb := by
 have key : ∀ {b m : Nat} {f : Nat → Int}, Fy w b m f → fb ≠ b := fun {b m f} hf e => by
  obtain ⟨cs, h1, -⟩ := hf.ex
  rw [← e, h.h] at h1
  simp only [Option.some.injEq, Obj.cells.injEq] at h1
  exact absurd h1.2.1 (by decide)
 exact ⟨key h.s, key h.a, key h.b, fun k hk e => Kg.row_ne h.h h.t (by decide) (by rw [hk, e])⟩
def frF (fb ab bb : Nat) (tv : Value) : List Nat := fb :: ab :: bb :: tv.ownBlock.toList
theorem Frs.cells (h : Frs w B fb p sb ab bb sc ac bc tv l sf af bf) : w.cell? ⟨fb, 0, none⟩ = some (.slice (some ⟨sb, 0, none⟩) p sc) ∧ w.cell? ⟨fb, 1, none⟩ = some (.slice (some ⟨ab, 0, none⟩) p ac) ∧ w.cell? ⟨fb, 2, none⟩ = some (.slice (some ⟨bb, 0, none⟩) p bc) ∧ w.cell? ⟨fb, 3, none⟩ = some tv :=
 ⟨Kg.heap_cell h.h 0, Kg.heap_cell h.h 1, Kg.heap_cell h.h 2, Kg.heap_cell h.h 3⟩
theorem Frs.touch {w' : World} {F : List Nat} (h : Frs w B fb p sb ab bb sc ac bc tv l sf af bf) (ht : Kg.Touch F w w') (h1 : fb ∉ F) (h2 : sb ∉ F) (h3 : ab ∉ F) (h4 : bb ∉ F) (h5 : ∀ k, tv.ownBlock = some k → k ∉ F) : Frs w' B fb p sb ab bb sc ac bc tv l sf af bf :=
 ⟨(ht.block _ (Kg.heap_lt h.h) h1).trans h.h, h.s.touch ht h2, h.a.touch ht h3, h.b.touch ht h4, Kg.row_keep2 h.t ht h5, h.sa, h.sbb, h.abb, h.ts, h.lo⟩
theorem Frs.drewN (h : Frs w B fb p sb ab bb sc ac bc tv l sf af bf) (n : Nat) : Frs (w.drewN n) B fb p sb ab bb sc ac bc tv l sf af bf := h.touch (Kg.Touch.drewN [] w n) (by simp) (by simp) (by simp) (by simp) (fun _ _ => by simp)
theorem Frs.setS (h : Frs w B fb p sb ab bb sc ac bc tv l sf af bf) {x : Nat} (hx : x < p) (v : Int) : Frs (w.setCell ⟨sb, x, none⟩ (.int .i64 v)) B fb p sb ab bb sc ac bc tv l (fun y => if y = x then v else sf y) af bf := by
 have t : Kg.Touch [sb] w (w.setCell ⟨sb, x, none⟩ (.int .i64 v)) := Kg.Touch.setCell _ _ _ (by simp)
 exact ⟨(t.block _ (Kg.heap_lt h.h) (by simpa using h.ne.1)).trans h.h, h.s.set hx v, h.a.touch t (by simpa using h.sa.symm), h.b.touch t (by simpa using h.sbb.symm), Kg.row_keep2 h.t t (fun k hk => by simpa using (h.ts k hk).1), h.sa, h.sbb, h.abb, h.ts, h.lo⟩
theorem Frs.setA (h : Frs w B fb p sb ab bb sc ac bc tv l sf af bf) {x : Nat} (hx : x < p) (v : Int) : Frs (w.setCell ⟨ab, x, none⟩ (.int .i64 v)) B fb p sb ab bb sc ac bc tv l sf (fun y => if y = x then v else af y) bf := by
 have t : Kg.Touch [ab] w (w.setCell ⟨ab, x, none⟩ (.int .i64 v)) := Kg.Touch.setCell _ _ _ (by simp)
 exact ⟨(t.block _ (Kg.heap_lt h.h) (by simpa using h.ne.2.1)).trans h.h, h.s.touch t (by simpa using h.sa), h.a.set hx v, h.b.touch t (by simpa using h.abb.symm), Kg.row_keep2 h.t t (fun k hk => by simpa using (h.ts k hk).2.1), h.sa, h.sbb, h.abb, h.ts, h.lo⟩
theorem Frs.setB (h : Frs w B fb p sb ab bb sc ac bc tv l sf af bf) {x : Nat} (hx : x < p) (v : Int) : Frs (w.setCell ⟨bb, x, none⟩ (.int .i64 v)) B fb p sb ab bb sc ac bc tv l sf af (fun y => if y = x then v else bf y) := by
 have t : Kg.Touch [bb] w (w.setCell ⟨bb, x, none⟩ (.int .i64 v)) := Kg.Touch.setCell _ _ _ (by simp)
 exact ⟨(t.block _ (Kg.heap_lt h.h) (by simpa using h.ne.2.2.1)).trans h.h, h.s.touch t (by simpa using h.sbb), h.a.touch t (by simpa using h.abb), h.b.set hx v, Kg.row_keep2 h.t t (fun k hk => by simpa using (h.ts k hk).2.2), h.sa, h.sbb, h.abb, h.ts, h.lo⟩
theorem Frs.setT (h : Frs w B fb p sb ab bb sc ac bc tv l sf af bf) {w' : World} {v' : Value} {l' : List Int} (ht : Kg.Touch tv.ownBlock.toList w w') (ho : Il w' B v' l') (hb : ∀ k, v'.ownBlock = some k → tv.ownBlock = some k ∨ w.heap.size ≤ k) :
  Frs (w'.setCell ⟨fb, 3, none⟩ v') B fb p sb ab bb sc ac bc v' l' sf af bf := by
 obtain ⟨n1, n2, n3, n4⟩ := h.ne
 have out : ∀ k, (∀ j, tv.ownBlock = some j → j ≠ k) → k ∉ tv.ownBlock.toList := fun k hk hm => by
  rw [Option.mem_toList] at hm
  exact hk k hm rfl
 have of : fb ∉ tv.ownBlock.toList := out fb n4
 have os : sb ∉ tv.ownBlock.toList := out sb (fun j hj => (h.ts j hj).1)
 have oa : ab ∉ tv.ownBlock.toList := out ab (fun j hj => (h.ts j hj).2.1)
 have ob : bb ∉ tv.ownBlock.toList := out bb (fun j hj => (h.ts j hj).2.2)
 have hh : w'.heap[fb]? = _ := (ht.block _ (Kg.heap_lt h.h) of).trans h.h
 have t2 : Kg.Touch [fb] w' (w'.setCell ⟨fb, 3, none⟩ v') := Kg.Touch.setCell _ _ _ (by simp)
 have new : ∀ k, v'.ownBlock = some k → k ≠ fb ∧ k ≠ sb ∧ k ≠ ab ∧ k ≠ bb := fun k hk => by
  rcases hb k hk with h1 | h1
  ·exact ⟨n4 k h1, h.ts k h1⟩
  ·have := Kg.heap_lt h.h
   have := h.s.lt
   have := h.a.lt
   have := h.b.lt
   exact ⟨by omega, by omega, by omega, by omega⟩
 refine ⟨?_, (h.s.touch ht os).touch t2 (by simpa using n1.symm), (h.a.touch ht oa).touch t2 (by simpa using n2.symm), (h.b.touch ht ob).touch t2 (by simpa using n3.symm), Kg.row_keep2 ho t2 (fun k hk => by simpa using (new k hk).1), h.sa, h.sbb, h.abb, fun k hk => (new k hk).2, h.lo⟩
 rw [Kg.heap_set hh]
 rfl
end Go.Proofs.YtckgcpoheodbcaaGreatDoor
