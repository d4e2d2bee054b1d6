/-
  One step of a table against the document's: Set, Get, Drop, Near, Len.
-/
import Derived.Test.YtcjblafohfiiaabGreatYG2
import Derived.Test.YtcjblafohfiiaabGreatYG4
import Derived.Test.YtcjblafohfiiaabGreatYT
set_option linter.unusedVariables false
set_option maxRecDepth 20000
namespace Go.Proofs.YtcjblafohfiiaabGreat.Nd
open Go.RowKit Go.Shelf

theorem cut_exists {α : Type} {lt : α → α → Bool} (ho : SOrd lt) {l : List α} (hs : Srt lt l) (k : α) : ∃ p, CutAt lt l k p := by
  refine ⟨l.findIdx (fun a => !lt a k), List.findIdx_le_length, fun i a hi ha => ?_, fun i a hi ha => ?_⟩
  · have h := List.not_of_lt_findIdx hi
    obtain ⟨hl, rfl⟩ := List.getElem?_eq_some_iff.1 ha
    simpa using h
  · have hl := (List.getElem?_eq_some_iff.1 ha).1
    have hlt : l.findIdx (fun a => !lt a k) < l.length := by omega
    have h := List.findIdx_getElem (w := hlt)
    exact hs.above ho (List.getElem?_eq_getElem hlt) (by simpa using h) i a hi ha

/-- A table and the document's of it. -/
def PW (W : World) (base bt br : Nat) (ks : List ByteArray) (vs : List Int) (kr : List ByteArray) (vr : List Int) (F : List Nat) : Prop :=
  ∃ Ft Fr, TTab W base bt ks vs Ft ∧ Rf W base br kr vr Fr ∧ Same ks vs kr vr ∧ Apart Ft Fr ∧ F = Ft ++ Fr

theorem tab_srt {W : World} {base bt : Nat} {ks : List ByteArray} {vs : List Int} {F : List Nat} (h : TTab W base bt ks vs F) : Srt ltS ks := by
  obtain ⟨_, _, _, _, _, _, _, h, _⟩ := h
  exact h

theorem PW.keep {W W' : World} {base bt br : Nat} {ks : List ByteArray} {vs : List Int} {kr : List ByteArray} {vr : List Int} {F G : List Nat} (h : PW W base bt br ks vs kr vr F) (ht : Touch G W W') (ha : Apart F G) : PW W' base bt br ks vs kr vr F := by
  obtain ⟨Fs, Fr, hs, hn, hm, hap, rfl⟩ := h
  exact ⟨Fs, Fr, hs.keep ht (fun k hk => ha k (by simp [hk])), hn.keep ht (fun k hk => ha k (by simp [hk])), hm, hap, rfl⟩

theorem PW.mem {W : World} {base bt br : Nat} {ks : List ByteArray} {vs : List Int} {kr : List ByteArray} {vr : List Int} {F : List Nat} (h : PW W base bt br ks vs kr vr F) : ∀ k, k ∈ F → base ≤ k ∧ k < W.heap.size := by
  obtain ⟨Fs, Fr, hs, hn, hm, hap, rfl⟩ := h
  intro k hk
  rcases List.mem_append.1 hk with h | h
  · exact hs.mem k h
  · exact hn.mem k h

theorem pw_after {w w1 w2 : World} {base bt br : Nat} {ks ks' : List ByteArray} {vs vs' : List Int} {kr kr' : List ByteArray} {vr vr' : List Int} {Fs Fr Fs1 Fr2 : List Nat} (hs : TTab w base bt ks vs Fs) (hn : Rf w base br kr vr Fr) (hap : Apart Fs Fr) (hs1 : TTab w1 base bt ks' vs' Fs1) (ht1 : Touch Fs w w1) (hw1 : Newer w.heap.size Fs Fs1)
    (hn2 : Rf w2 base br kr' vr' Fr2) (ht2 : Touch Fr w1 w2) (hw2 : Newer w1.heap.size Fr Fr2) (hsm : Same ks' vs' kr' vr') : ∃ F', PW w2 base bt br ks' vs' kr' vr' F' ∧ Touch (Fs ++ Fr) w w2 ∧ Newer w.heap.size (Fs ++ Fr) F' := by
  have a1 : Apart Fs1 Fr := hap.newer hw1 (fun k hk => (hn.mem k hk).2)
  have a2 : Apart Fs1 Fr2 := (a1.symm.newer hw2 (fun k hk => (hs1.mem k hk).2)).symm
  refine ⟨Fs1 ++ Fr2, ⟨Fs1, Fr2, hs1.keep ht2 a1, hn2, hsm, a2, rfl⟩, (ht1.mono (fun k hk => .inl (by simp [hk]))).trans (ht2.mono (fun k hk => .inl (by simp [hk]))), ?_⟩
  intro k hk
  rcases List.mem_append.1 hk with h | h
  · rcases hw1 k h with h1 | h1
    · exact .inl (by simp [h1])
    · exact .inr h1
  · rcases newer_mono hw2 ht1.size k h with h1 | h1
    · exact .inl (by simp [h1])
    · exact .inr h1

section
variable (d i bt br : Nat) (sec : Bool) (n wd : Int) (s : ByteArray) (stop : Int) (w : World) (hi : i < 2) (hc : w.cell? ⟨d, 8 + i, none⟩ = some (.pointer (some ⟨bt, 0, none⟩))) (hcr : w.cell? ⟨d, 18 + i, none⟩ = some (.pointer (some ⟨br, 0, none⟩)))
include hi hc hcr

set_option maxHeartbeats 2000000 in
theorem set_core (r : Bool) (S1 S2 : World → Prop) (h1 : Calls Tryz.prog 64 #[.pointer (some ⟨bt, 0, none⟩), .string s, .int .i64 n] (w.alloc (.cells (opv 21 sec n wd s stop) 31)) fun e w1 => e = .returned (.bool r) ∧ S1 w1)
    (hb : ∀ w1, S1 w1 → w1.heap[w.heap.size]? = some (.cells (opv 21 sec n wd s stop) 31 (0, 0))) (h2 : ∀ w1, S1 w1 → Calls Tryz.prog 65 #[.pointer (some ⟨br, 0, none⟩), .string s, .int .i64 n] w1 fun e w2 => e = .returned (.bool r) ∧ S2 w2) :
    Calls Tryz.prog 22 #[.pointer (some ⟨d, 0, none⟩), .agg (opv 21 sec n wd s stop), .int .i64 i] w fun e w' => e = .returned (.bool true) ∧ S2 w' := by
  have hi' : (i : Int) < 2 := by omega
  have hdl : d < w.heap.size := World.block_lt_of_cell? _ _ hc
  have Hb : Hid (∀ w1, S1 w1 → w1.heap[w.heap.size]? = some (.cells (opv 21 sec n wd s stop) 31 (0, 0))) := hb
  have H2 : Hid (∀ w1, S1 w1 → Calls Tryz.prog 65 #[.pointer (some ⟨br, 0, none⟩), .string s, .int .i64 n] w1 fun e w2 => e = .returned (.bool r) ∧ S2 w2) := h2
  clear hb h2
  go_enter Tryz.func22, Tryz.ntmps22
  go_wp2_with fail
  refine h1.mono ?_
  rintro e w1 ⟨rfl, hs1⟩
  have bO := Hb.out w1 hs1
  have h2 := H2.out w1 hs1
  clear h1 Hb H2
  have cN := heap_cell bO 4
  have cV := heap_cell bO 2
  simp only [List.getElem?_toArray, List.getElem?_cons_zero, List.getElem?_cons_succ] at cN cV
  go_wp2_with fail
  refine h2.mono ?_
  rintro e w2 ⟨rfl, hs2⟩
  clear h2 cN cV bO
  go_wp2
  go_ret
  exact ⟨by simp, hs2⟩

set_option maxHeartbeats 2000000 in
theorem drop_core (r : Bool) (S1 S2 : World → Prop) (h1 : Calls Tryz.prog 68 #[.pointer (some ⟨bt, 0, none⟩), .string s] (w.alloc (.cells (opv 23 sec n wd s stop) 31)) fun e w1 => e = .returned (.bool r) ∧ S1 w1)
    (hb : ∀ w1, S1 w1 → w1.heap[w.heap.size]? = some (.cells (opv 23 sec n wd s stop) 31 (0, 0))) (h2 : ∀ w1, S1 w1 → Calls Tryz.prog 69 #[.pointer (some ⟨br, 0, none⟩), .string s] w1 fun e w2 => e = .returned (.bool r) ∧ S2 w2) :
    Calls Tryz.prog 22 #[.pointer (some ⟨d, 0, none⟩), .agg (opv 23 sec n wd s stop), .int .i64 i] w fun e w' => e = .returned (.bool true) ∧ S2 w' := by
  have hi' : (i : Int) < 2 := by omega
  have hdl : d < w.heap.size := World.block_lt_of_cell? _ _ hc
  have Hb : Hid (∀ w1, S1 w1 → w1.heap[w.heap.size]? = some (.cells (opv 23 sec n wd s stop) 31 (0, 0))) := hb
  have H2 : Hid (∀ w1, S1 w1 → Calls Tryz.prog 69 #[.pointer (some ⟨br, 0, none⟩), .string s] w1 fun e w2 => e = .returned (.bool r) ∧ S2 w2) := h2
  clear hb h2
  go_enter Tryz.func22, Tryz.ntmps22
  go_wp2_with fail
  refine h1.mono ?_
  rintro e w1 ⟨rfl, hs1⟩
  have bO := Hb.out w1 hs1
  have h2 := H2.out w1 hs1
  clear h1 Hb H2
  have cN := heap_cell bO 4
  simp only [List.getElem?_toArray, List.getElem?_cons_zero, List.getElem?_cons_succ] at cN
  go_wp2_with fail
  refine h2.mono ?_
  rintro e w2 ⟨rfl, hs2⟩
  clear h2 cN bO
  go_wp2
  go_ret
  exact ⟨by simp, hs2⟩

set_option maxHeartbeats 2000000 in
theorem get_core (x : Int) (r : Bool) (h1 : Calls Tryz.prog 66 #[.pointer (some ⟨bt, 0, none⟩), .string s] (w.alloc (.cells (opv 22 sec n wd s stop) 31)) fun e w1 => e = .returned (.tuple #[.int .i64 x, .bool r]) ∧ w1 = w.alloc (.cells (opv 22 sec n wd s stop) 31))
    (h2 : Calls Tryz.prog 67 #[.pointer (some ⟨br, 0, none⟩), .string s] (w.alloc (.cells (opv 22 sec n wd s stop) 31)) fun e w1 => e = .returned (.tuple #[.int .i64 x, .bool r]) ∧ w1 = w.alloc (.cells (opv 22 sec n wd s stop) 31)) :
    Calls Tryz.prog 22 #[.pointer (some ⟨d, 0, none⟩), .agg (opv 22 sec n wd s stop), .int .i64 i] w fun e w' => e = .returned (.bool true) ∧ w' = w.alloc (.cells (opv 22 sec n wd s stop) 31) := by
  have hi' : (i : Int) < 2 := by omega
  have hdl : d < w.heap.size := World.block_lt_of_cell? _ _ hc
  go_enter Tryz.func22, Tryz.ntmps22
  go_wp2_with fail
  refine h1.mono ?_
  rintro e w1 ⟨rfl, rfl⟩
  go_wp2_with fail
  refine h2.mono ?_
  rintro e w1 ⟨rfl, rfl⟩
  clear h1 h2
  go_wp2
  go_ret
  exact ⟨by simp, rfl⟩

set_option maxHeartbeats 2000000 in
theorem near_core (k : ByteArray) (x : Int) (r : Bool) (h1 : Calls Tryz.prog 70 #[.pointer (some ⟨bt, 0, none⟩), .string s] (w.alloc (.cells (opv 24 sec n wd s stop) 31)) fun e w1 => e = .returned (.tuple #[.string k, .int .i64 x, .bool r]) ∧ ∃ nq, w1 = (w.alloc (.cells (opv 24 sec n wd s stop) 31)).drewN nq)
    (h2 : ∀ q, Calls Tryz.prog 71 #[.pointer (some ⟨br, 0, none⟩), .string s] ((w.alloc (.cells (opv 24 sec n wd s stop) 31)).drewN q) fun e w1 => e = .returned (.tuple #[.string k, .int .i64 x, .bool r]) ∧ ∃ nq, w1 = ((w.alloc (.cells (opv 24 sec n wd s stop) 31)).drewN q).drewN nq) :
    Calls Tryz.prog 22 #[.pointer (some ⟨d, 0, none⟩), .agg (opv 24 sec n wd s stop), .int .i64 i] w fun e w' => e = .returned (.bool true) ∧ ∃ nq, w' = (w.alloc (.cells (opv 24 sec n wd s stop) 31)).drewN nq := by
  have hi' : (i : Int) < 2 := by omega
  have hdl : d < w.heap.size := World.block_lt_of_cell? _ _ hc
  go_enter Tryz.func22, Tryz.ntmps22
  go_wp2_with fail
  refine h1.mono ?_
  rintro e w1 ⟨rfl, q, rfl⟩
  go_wp2_with fail
  refine (h2 q).mono ?_
  rintro e w1 ⟨rfl, q2, rfl⟩
  clear h1 h2
  go_wp2
  go_ret
  exact ⟨by simp, _, by first | rfl | exact drew2 _ _ _⟩

set_option maxHeartbeats 2000000 in
theorem len_core (L : Nat) (a : Option Addr) (cap : Nat) (h1 : Calls Tryz.prog 72 #[.pointer (some ⟨bt, 0, none⟩)] (w.alloc (.cells (opv 25 sec n wd s stop) 31)) fun e w1 => e = .returned (.int .i64 L) ∧ w1 = w.alloc (.cells (opv 25 sec n wd s stop) 31))
    (h2 : (w.alloc (.cells (opv 25 sec n wd s stop) 31)).cell? ⟨br, 0, none⟩ = some (.slice a L cap)) :
    Calls Tryz.prog 22 #[.pointer (some ⟨d, 0, none⟩), .agg (opv 25 sec n wd s stop), .int .i64 i] w fun e w' => e = .returned (.bool true) ∧ w' = w.alloc (.cells (opv 25 sec n wd s stop) 31) := by
  have hi' : (i : Int) < 2 := by omega
  have hdl : d < w.heap.size := World.block_lt_of_cell? _ _ hc
  go_enter Tryz.func22, Tryz.ntmps22
  go_wp2_with fail
  refine h1.mono ?_
  rintro e w1 ⟨rfl, rfl⟩
  clear h1
  go_wp2
  go_ret
  exact ⟨by simp, rfl⟩
end

section
variable (d i bt br base : Nat) (ks : List ByteArray) (vs : List Int) (kr : List ByteArray) (vr : List Int) (F : List Nat) (sec : Bool) (n wd : Int) (s : ByteArray) (stop : Int) (w : World) (hi : i < 2) (hp : PW w base bt br ks vs kr vr F) (hbase : base ≤ w.heap.size) (hlen : ks.length < 1000000)
  (hc : w.cell? ⟨d, 8 + i, none⟩ = some (.pointer (some ⟨bt, 0, none⟩))) (hcr : w.cell? ⟨d, 18 + i, none⟩ = some (.pointer (some ⟨br, 0, none⟩)))
include hi hp hbase hlen hc hcr

/-- What a step leaves. -/
abbrev Left (base bt br : Nat) (ks : List ByteArray) (F : List Nat) (w w' : World) : Prop := ∃ ks' vs' kr' vr' F', ks'.length ≤ ks.length + 1 ∧ PW w' base bt br ks' vs' kr' vr' F' ∧ Touch F w w' ∧ Newer w.heap.size F F'

omit hi hbase hlen hc hcr in
theorem left_same {w' : World} (ht : Touch [] w w') : Left base bt br ks F w w' :=
  ⟨ks, vs, kr, vr, F, by omega, hp.keep ht (by intro k _ h; simp at h), ht.mono (by simp), Newer.refl _ _⟩

theorem wo_set : Calls Tryz.prog 22 #[.pointer (some ⟨d, 0, none⟩), .agg (opv 21 sec n wd s stop), .int .i64 i] w fun e w' => e = .returned (.bool true) ∧ Left base bt br ks F w w' := by
  obtain ⟨Fs, Fr, hs, hn, hsm, hap, rfl⟩ := hp
  have ha : Touch [] w (w.alloc (.cells (opv 21 sec n wd s stop) 31)) := Touch.alloc _ _ _
  have hs0 := hs.keep ha (by intro k _ h; simp at h)
  have hn0 := hn.keep ha (by intro k _ h; simp at h)
  have hz : w.heap.size ≤ (w.alloc (.cells (opv 21 sec n wd s stop) 31)).heap.size := by simp
  have hsrt := tab_srt hs
  have hbx : ∀ w1, Touch Fs (w.alloc (.cells (opv 21 sec n wd s stop) 31)) w1 → w1.heap[w.heap.size]? = some (.cells (opv 21 sec n wd s stop) 31 (0, 0)) := fun w1 ht1 => box_old (Boxed6.new w (opv 21 sec n wd s stop) 31) ht1 (fun hm => by have := (hs.mem _ hm).2; omega)
  have hlr : kr.length < 1000000 := by rw [hsm.len]; exact hlen
  obtain ⟨p, hpc⟩ := cut_exists sordS hsrt s
  by_cases hf : ks[p]? = some s
  · obtain ⟨j, hj⟩ := (hsm.key s).2 ⟨p, hf⟩
    exact set_core d i bt br sec n wd s stop w hi hc hcr false _ _ (setT_again bt base p n s ks vs Fs _ hs0 hlen hpc hf) (fun w1 h => hbx w1 h.2) (fun w1 h => (rset_again br base j s n kr vr Fr w1 (hn0.keep h.2 hap.symm) hlr hsm.d2 hj).mono fun e w2 ⟨he, h3, h4⟩ => ⟨he, by
      obtain ⟨F', h5, h6, h7⟩ := pw_after hs hn hap h.1 ((ha.mono (by simp)).trans h.2) (Newer.refl _ _) h3 h4 (Newer.refl _ _) (hsm.again n hf hj)
      exact ⟨_, _, _, _, F', by omega, h5, h6, h7⟩⟩)
  · have hno : ∀ q : Nat, ks[q]? ≠ some s := fun q hq => hf (by rw [← hpc.found sordS hsrt q hq]; exact hq)
    have hno2 : ∀ q : Nat, kr[q]? ≠ some s := fun q hq => by
      obtain ⟨q', h'⟩ := (hsm.key _).1 ⟨q, hq⟩
      exact hno q' h'
    have hd : Dst (ins ks p s) := (hsrt.ins sordS hpc hf).dst sordS
    exact set_core d i bt br sec n wd s stop w hi hc hcr true _ _ (setT_fresh bt base p n s ks vs Fs _ hs0 (by omega) hlen hpc hf) (fun w1 ⟨F1, h, ht, hw⟩ => hbx w1 ht) (fun w1 ⟨F1, h, ht, hw⟩ => (rset_fresh br base s n kr vr Fr w1 (hn0.keep ht hap.symm) (by have := ht.size; omega) hlr hno2).mono fun e w2 ⟨he, F2, h3, h4, h5⟩ => ⟨he, by
      obtain ⟨F', h6, h7, h8⟩ := pw_after hs hn hap h ((ha.mono (by simp)).trans ht) (newer_mono hw hz) h3 h4 h5 (hsm.fresh (lt := ltS) n hpc.1 hno hd)
      exact ⟨_, _, _, _, F', by rw [ins_length _ _ _ hpc.1]; omega, h6, h7, h8⟩⟩)

omit hbase in
theorem wo_drop : Calls Tryz.prog 22 #[.pointer (some ⟨d, 0, none⟩), .agg (opv 23 sec n wd s stop), .int .i64 i] w fun e w' => e = .returned (.bool true) ∧ Left base bt br ks F w w' := by
  have hp' := hp
  obtain ⟨Fs, Fr, hs, hn, hsm, hap, rfl⟩ := hp
  have ha : Touch [] w (w.alloc (.cells (opv 23 sec n wd s stop) 31)) := Touch.alloc _ _ _
  have hs0 := hs.keep ha (by intro k _ h; simp at h)
  have hn0 := hn.keep ha (by intro k _ h; simp at h)
  have hsrt := tab_srt hs
  have hbx : ∀ w1, Touch Fs (w.alloc (.cells (opv 23 sec n wd s stop) 31)) w1 → w1.heap[w.heap.size]? = some (.cells (opv 23 sec n wd s stop) 31 (0, 0)) := fun w1 ht1 => box_old (Boxed6.new w (opv 23 sec n wd s stop) 31) ht1 (fun hm => by have := (hs.mem _ hm).2; omega)
  have hlr : kr.length < 1000000 := by rw [hsm.len]; exact hlen
  obtain ⟨p, hpc⟩ := cut_exists sordS hsrt s
  by_cases hf : ks[p]? = some s
  · obtain ⟨j, hj⟩ := (hsm.key s).2 ⟨p, hf⟩
    have hpl : p < ks.length := (List.getElem?_eq_some_iff.1 hf).1
    obtain ⟨m, hm⟩ : ∃ m, m + 1 = kr.length := ⟨kr.length - 1, by have := hsm.len; omega⟩
    obtain ⟨x, hx⟩ : ∃ x, kr[m]? = some x := ⟨_, List.getElem?_eq_getElem (by omega)⟩
    obtain ⟨y, hy⟩ : ∃ y, vr[m]? = some y := ⟨_, List.getElem?_eq_getElem (by have := hsm.l2; omega)⟩
    exact drop_core d i bt br sec n wd s stop w hi hc hcr true _ _ (dropT_yes bt base p s ks vs Fs _ hs0 hlen hpc hf) (fun w1 h => hbx w1 h.2) (fun w1 h => (rdrop_yes br base j m s x y kr vr Fr w1 (hn0.keep h.2 hap.symm) hlr hsm.d2 hj hm hx hy).mono fun e w2 ⟨he, h3, h4⟩ => ⟨he, by
      obtain ⟨F', h5, h6, h7⟩ := pw_after hs hn hap h.1 ((ha.mono (by simp)).trans h.2) (Newer.refl _ _) h3 h4 (Newer.refl _ _) (hsm.drop hf hj hm hx hy ((hsrt.del p hpl).dst sordS))
      exact ⟨_, _, _, _, F', by rw [del_length _ _ hpl]; omega, h5, h6, h7⟩⟩)
  · have hno : ∀ q : Nat, ks[q]? ≠ some s := fun q hq => hf (by rw [← hpc.found sordS hsrt q hq]; exact hq)
    have hno2 : ∀ q : Nat, kr[q]? ≠ some s := fun q hq => by
      obtain ⟨q', h'⟩ := (hsm.key _).1 ⟨q, hq⟩
      exact hno q' h'
    exact drop_core d i bt br sec n wd s stop w hi hc hcr false (fun w1 => w1 = w.alloc (.cells (opv 23 sec n wd s stop) 31)) _ (dropT_no bt base p s ks vs Fs _ hs0 hlen hpc hf) (fun w1 h => by rw [h]; exact Boxed6.new w _ _) (fun w1 h => by
      subst h
      exact (rdrop_no br base s kr vr Fr _ hn0 hlr hno2).mono fun e w2 ⟨he, h3⟩ => ⟨he, by
        subst h3
        exact left_same bt br base ks vs kr vr _ w hp' ha⟩)

omit hbase in
theorem wo_get : Calls Tryz.prog 22 #[.pointer (some ⟨d, 0, none⟩), .agg (opv 22 sec n wd s stop), .int .i64 i] w fun e w' => e = .returned (.bool true) ∧ Left base bt br ks F w w' := by
  have hp' := hp
  obtain ⟨Fs, Fr, hs, hn, hsm, hap, rfl⟩ := hp
  have ha : Touch [] w (w.alloc (.cells (opv 22 sec n wd s stop) 31)) := Touch.alloc _ _ _
  have hs0 := hs.keep ha (by intro k _ h; simp at h)
  have hn0 := hn.keep ha (by intro k _ h; simp at h)
  have hsrt := tab_srt hs
  have hlr : kr.length < 1000000 := by rw [hsm.len]; exact hlen
  obtain ⟨p, hpc⟩ := cut_exists sordS hsrt s
  have hfin : ∀ (e : Ending) (w' : World), (e = .returned (.bool true) ∧ w' = w.alloc (.cells (opv 22 sec n wd s stop) 31)) → e = .returned (.bool true) ∧ Left base bt br ks (Fs ++ Fr) w w' := fun e w' ⟨he, hw⟩ => ⟨he, by rw [hw]; exact left_same bt br base ks vs kr vr _ w hp' ha⟩
  by_cases hf : ks[p]? = some s
  · obtain ⟨j, hj⟩ := (hsm.key s).2 ⟨p, hf⟩
    have hpl : p < ks.length := (List.getElem?_eq_some_iff.1 hf).1
    obtain ⟨x, hx⟩ : ∃ x, vs[p]? = some x := ⟨_, List.getElem?_eq_getElem (by have := hsm.l1; omega)⟩
    obtain ⟨y, hy⟩ : ∃ y, vr[j]? = some y := ⟨_, List.getElem?_eq_getElem (by have := hsm.l2; have := (List.getElem?_eq_some_iff.1 hj).1; omega)⟩
    obtain rfl := hsm.val hf hx hj hy
    exact (get_core d i bt br sec n wd s stop w hi hc hcr x true (tget_yes bt base p s x ks vs Fs _ hs0 hlen hpc hf hx) (rget_yes br base j s x kr vr Fr _ hn0 hlr hsm.d2 hj hy)).mono hfin
  · have hno : ∀ q : Nat, ks[q]? ≠ some s := fun q hq => hf (by rw [← hpc.found sordS hsrt q hq]; exact hq)
    have hno2 : ∀ q : Nat, kr[q]? ≠ some s := fun q hq => by
      obtain ⟨q', h'⟩ := (hsm.key _).1 ⟨q, hq⟩
      exact hno q' h'
    exact (get_core d i bt br sec n wd s stop w hi hc hcr 0 false (getT_no bt base p s ks vs Fs _ hs0 hlen hpc hf) (rget_no br base s kr vr Fr _ hn0 hlr hno2)).mono hfin

omit hbase in
theorem wo_near : Calls Tryz.prog 22 #[.pointer (some ⟨d, 0, none⟩), .agg (opv 24 sec n wd s stop), .int .i64 i] w fun e w' => e = .returned (.bool true) ∧ Left base bt br ks F w w' := by
  have hp' := hp
  obtain ⟨Fs, Fr, hs, hn, hsm, hap, rfl⟩ := hp
  have ha : Touch [] w (w.alloc (.cells (opv 24 sec n wd s stop) 31)) := Touch.alloc _ _ _
  have hs0 := hs.keep ha (by intro k _ h; simp at h)
  have hn0 := hn.keep ha (by intro k _ h; simp at h)
  have hsrt := tab_srt hs
  have hlr : kr.length < 1000000 := by rw [hsm.len]; exact hlen
  obtain ⟨p, hpc⟩ := cut_exists sordS hsrt s
  have hfin : ∀ (e : Ending) (w' : World), (e = .returned (.bool true) ∧ ∃ nq, w' = (w.alloc (.cells (opv 24 sec n wd s stop) 31)).drewN nq) → e = .returned (.bool true) ∧ Left base bt br ks (Fs ++ Fr) w w' := fun e w' ⟨he, q, hw⟩ => ⟨he, by rw [hw]; exact left_same bt br base ks vs kr vr _ w hp' (ha.trans (Touch.drewN _ _ _))⟩
  by_cases hex : ∃ a, Best ltS kr s kr.length (some a)
  · obtain ⟨a, hb⟩ := hex
    obtain ⟨q, x, v, h1, h2, h3, h4, h5⟩ := Best.near sordS hsm hsrt hpc hb
    refine (near_core d i bt br sec n wd s stop w hi hc hcr x v true (nearT_yes bt base p q s x v ks vs Fs _ hs0 hlen hpc h5 h3 h4) (fun q' => ?_)).mono hfin
    refine (rnear_any br base s kr vr Fr _ (hn0.keep (Touch.drewN [] _ q') (by intro k _ h; simp at h)) hlr).mono ?_
    rintro e w' ⟨hw, ⟨h6, h7⟩ | ⟨a', x', v', h6, h7, h8, h9⟩⟩
    · have := h6 a x hb.1 h1
      obtain ⟨_, y, hy, hky, _⟩ := hb
      rw [h1] at hy; cases hy
      rw [this] at hky; cases hky
    · obtain ⟨q2, x2, v2, g1, g2, g3, g4, g5⟩ := Best.near sordS hsm hsrt hpc h6
      rw [h7] at g1; cases g1
      rw [h8] at g2; cases g2
      have hq : q2 = q := by
        rcases h5 with ⟨m1, m2⟩ | ⟨m1, m2⟩
        · rcases g5 with ⟨m3, m4⟩ | ⟨m3, m4⟩
          · omega
          · exact absurd m1 m3
        · rcases g5 with ⟨m3, m4⟩ | ⟨m3, m4⟩
          · exact absurd m3 m1
          · omega
      subst hq
      rw [h3] at g3; cases g3
      rw [h4] at g4; cases g4
      exact ⟨h9, hw⟩
  · have hno := hex
    have hb : Best ltS kr s kr.length none := fun j x hj hx => by
      cases hkx : ltS s x with
      | true => rfl
      | false => exact absurd (best_exists kr s kr.length (Nat.le_refl _) j x hj hx hkx) hno
    obtain ⟨h1, h2⟩ := Best.near sordS hsm hsrt hpc hb
    subst h1
    refine (near_core d i bt br sec n wd s stop w hi hc hcr ⟨#[]⟩ 0 false ((nearT_no bt base s ks vs Fs _ hs0 hlen hpc h2).mono fun e w' ⟨he, hw⟩ => ⟨he, 0, hw⟩) (fun q' => ?_)).mono hfin
    refine (rnear_any br base s kr vr Fr _ (hn0.keep (Touch.drewN [] _ q') (by intro k _ h; simp at h)) hlr).mono ?_
    rintro e w' ⟨hw, ⟨h6, h7⟩ | ⟨a', x', v', h6, h7, h8, h9⟩⟩
    · exact ⟨h7, hw⟩
    · exact absurd ⟨a', h6⟩ hno

omit hbase hlen in
theorem wo_len : Calls Tryz.prog 22 #[.pointer (some ⟨d, 0, none⟩), .agg (opv 25 sec n wd s stop), .int .i64 i] w fun e w' => e = .returned (.bool true) ∧ Left base bt br ks F w w' := by
  have hp' := hp
  obtain ⟨Fs, Fr, hs, hn, hsm, hap, rfl⟩ := hp
  have ha : Touch [] w (w.alloc (.cells (opv 25 sec n wd s stop) 31)) := Touch.alloc _ _ _
  have hs0 := hs.keep ha (by intro k _ h; simp at h)
  have hn0 := hn.keep ha (by intro k _ h; simp at h)
  have hfin : ∀ (e : Ending) (w' : World), (e = .returned (.bool true) ∧ w' = w.alloc (.cells (opv 25 sec n wd s stop) 31)) → e = .returned (.bool true) ∧ Left base bt br ks (Fs ++ Fr) w w' := fun e w' ⟨he, hw⟩ => ⟨he, by rw [hw]; exact left_same bt br base ks vs kr vr _ w hp' ha⟩
  obtain ⟨vk, vv, hh, _, hk, _⟩ := hs0
  obtain ⟨vk2, vv2, hh2, _, hk2, _⟩ := hn0
  have c0 := heap_cell hh 0
  have c2 := heap_cell hh2 0
  simp only [List.getElem?_toArray, List.getElem?_cons_zero] at c0 c2
  obtain ⟨a2, cap2, rfl, _⟩ := row_sl hk2
  rw [hsm.len] at c2
  exact (len_core d i bt br sec n wd s stop w hi hc hcr ks.length a2 cap2 (lenT_any bt base ks.length vk _ _ c0 hk) c2).mono hfin
end

end Go.Proofs.YtcjblafohfiiaabGreat.Nd
