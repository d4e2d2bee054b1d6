import Derived.Test.YtblbiikfipcbcaaGreatDoorPIi
import Derived.Test.YtblbiikfipcbcaaGreatDoorPIp
import Derived.Test.YtblbiikfipcbcaaGreatDoorPKm
import Derived.Laws.EntriesVeiled
/-
  Images, the writer: its bytes; a number.
-/
set_option linter.unusedVariables false
set_option maxRecDepth 20000
namespace Go.Proofs.YtblbiikfipcbcaaGreatDoor
open Go.RowKit Go.Shelf

/-- Bytes as values. -/
def bts (l : List Nat) : List Value := l.map fun x : Nat => Value.int .u8 (x : Int)
theorem bts_append (l m : List Nat) : bts (l ++ m) = bts l ++ bts m := by simp [bts]
theorem bts_len (l : List Nat) : (bts l).length = l.length := by simp [bts]

/-- From one world to the next: nothing but the writer has changed. -/
structure Kp (R : Nat) (w : World) (Q : Nat) (w' : World) (Q' : Nat) : Prop where
  t : Kg.Touch [R, Q] w w'
  q : Q' = Q ∨ w.heap.size ≤ Q'

theorem Kp.refl (R : Nat) (w : World) (Q : Nat) : Kp R w Q w Q := ⟨Kg.Touch.refl _ _, .inl rfl⟩
theorem Kp.trans {R Q Q' Q'' : Nat} {w w' w'' : World} (h : Kp R w Q w' Q') (k : Kp R w' Q' w'' Q'') : Kp R w Q w'' Q'' := by
  refine ⟨h.t.then k.t (fun x hx => ?_), ?_⟩
  · simp only [List.mem_cons, List.not_mem_nil, or_false] at hx
    rcases hx with rfl | rfl
    · exact .inl (by simp)
    · rcases h.q with e | e
      · exact .inl (by simp [e])
      · exact .inr e
  · have := h.t.size
    rcases k.q with e | e
    · rcases h.q with e' | e'
      · exact .inl (by omega)
      · exact .inr (by omega)
    · exact .inr (by omega)
theorem Kp.below {R Q : Nat} {w w' : World} (b : Below w.heap.size w w') : Kp R w Q w' Q := ⟨Kg.Touch.of_below b _, .inl rfl⟩
theorem Kp.lt {R Q Q' k : Nat} {w w' : World} (h : Kp R w Q w' Q') (hk : k < w.heap.size) : k < w'.heap.size := Nat.lt_of_lt_of_le hk h.t.size
theorem Kp.ne {R Q Q' k : Nat} {w w' : World} (h : Kp R w Q w' Q') (hk : k < w.heap.size) (hq : k ≠ Q) : k ≠ Q' := by
  rcases h.q with e | e
  · omega
  · omega
theorem Kp.block {R Q Q' k : Nat} {w w' : World} (h : Kp R w Q w' Q') (hk : k < w.heap.size) (hr : k ≠ R) (hq : k ≠ Q) : w'.heap[k]? = w.heap[k]? := h.t.block k hk (by simp [hr, hq])
theorem Kp.cell {R Q Q' k j : Nat} {w w' : World} (h : Kp R w Q w' Q') (hk : k < w.heap.size) (hr : k ≠ R) (hq : k ≠ Q) : w'.cell? ⟨k, j, none⟩ = w.cell? ⟨k, j, none⟩ := by
  simp only [World.cell?, h.block hk hr hq]

theorem infoU8 : (Tryz.prog.info? 5).map (fun i => (i.zero, i.size, i.bytes)) = some (some (.int .u8 0), 1, 1) := by kernel_rfl

theorem or128 : ∀ r : Fin 128, bits BinOp.or IntKind.u64 ((r.val : Nat) : Int) 128 % 256 = ((128 + r.val : Nat) : Int) := by decide +kernel
theorem or128_of (m : Nat) : bits BinOp.or IntKind.u64 ((m : Int) % 128) 128 % 256 = ((128 + m % 128 : Nat) : Int) := or128 ⟨m % 128, by omega⟩

theorem num_len : ∀ (k n : Nat), n < 128 ^ (k + 1) → (Im.num n).length ≤ k + 1 := by
  intro k
  induction k with
  | zero => intro n h; rw [Im.num_small (by simpa using h)]; simp
  | succ k ih =>
    intro n h
    by_cases h1 : n < 128
    · rw [Im.num_small h1]; simp
    · rw [Im.num_great (by omega), List.length_cons]
      have := ih (n / 128) (by rw [Nat.pow_succ] at h; omega)
      omega

end Go.Proofs.YtblbiikfipcbcaaGreatDoor

/-
  Images, the writer: parts that are numbers.
-/
set_option linter.unusedVariables false
set_option maxRecDepth 20000
namespace Go.Proofs.YtblbiikfipcbcaaGreatDoor
open Go.RowKit Go.Shelf

theorem ta_pnumber (v : Value) (w : World) : Sem.run Tryz.prog (Instr.typeAssert (.iface 97 v) 78 97 true) w = .ok (.tuple #[v, .bool true]) w := by kernel_rfl
theorem ta_phandle (v : Value) (w : World) : Sem.run Tryz.prog (Instr.typeAssert (.iface 98 v) 78 98 true) w = .ok (.tuple #[v, .bool true]) w := by kernel_rfl
theorem tn_phandle_pnumber (v : Value) (w : World) : Sem.run Tryz.prog (Instr.typeAssert (.iface 98 v) 78 97 true) w = .ok (.tuple #[.agg #[.pointer none], .bool false]) w := by kernel_rfl
theorem ta_praw (v : Value) (w : World) : Sem.run Tryz.prog (Instr.typeAssert (.iface 101 v) 78 101 true) w = .ok (.tuple #[v, .bool true]) w := by kernel_rfl
theorem tn_praw_pnumber (v : Value) (w : World) : Sem.run Tryz.prog (Instr.typeAssert (.iface 101 v) 78 97 true) w = .ok (.tuple #[.agg #[.pointer none], .bool false]) w := by kernel_rfl
theorem tn_praw_phandle (v : Value) (w : World) : Sem.run Tryz.prog (Instr.typeAssert (.iface 101 v) 78 98 true) w = .ok (.tuple #[.agg #[.pointer none], .bool false]) w := by kernel_rfl
theorem ta_pserial (v : Value) (w : World) : Sem.run Tryz.prog (Instr.typeAssert (.iface 103 v) 78 103 true) w = .ok (.tuple #[v, .bool true]) w := by kernel_rfl
theorem tn_pserial_pnumber (v : Value) (w : World) : Sem.run Tryz.prog (Instr.typeAssert (.iface 103 v) 78 97 true) w = .ok (.tuple #[.agg #[.pointer none], .bool false]) w := by kernel_rfl
theorem tn_pserial_phandle (v : Value) (w : World) : Sem.run Tryz.prog (Instr.typeAssert (.iface 103 v) 78 98 true) w = .ok (.tuple #[.agg #[.pointer none], .bool false]) w := by kernel_rfl
theorem tn_pserial_praw (v : Value) (w : World) : Sem.run Tryz.prog (Instr.typeAssert (.iface 103 v) 78 101 true) w = .ok (.tuple #[.agg #[.pointer none], .bool false]) w := by kernel_rfl
theorem ta_plist (v : Value) (w : World) : Sem.run Tryz.prog (Instr.typeAssert (.iface 106 v) 78 106 true) w = .ok (.tuple #[v, .bool true]) w := by kernel_rfl
theorem tn_plist_pnumber (v : Value) (w : World) : Sem.run Tryz.prog (Instr.typeAssert (.iface 106 v) 78 97 true) w = .ok (.tuple #[.agg #[.pointer none], .bool false]) w := by kernel_rfl
theorem tn_plist_phandle (v : Value) (w : World) : Sem.run Tryz.prog (Instr.typeAssert (.iface 106 v) 78 98 true) w = .ok (.tuple #[.agg #[.pointer none], .bool false]) w := by kernel_rfl
theorem tn_plist_praw (v : Value) (w : World) : Sem.run Tryz.prog (Instr.typeAssert (.iface 106 v) 78 101 true) w = .ok (.tuple #[.agg #[.pointer none], .bool false]) w := by kernel_rfl
theorem tn_plist_pserial (v : Value) (w : World) : Sem.run Tryz.prog (Instr.typeAssert (.iface 106 v) 78 103 true) w = .ok (.tuple #[.agg #[.pointer none, .int .u64 0], .bool false]) w := by kernel_rfl
theorem ta_pgroup (v : Value) (w : World) : Sem.run Tryz.prog (Instr.typeAssert (.iface 108 v) 78 108 true) w = .ok (.tuple #[v, .bool true]) w := by kernel_rfl
theorem tn_pgroup_pnumber (v : Value) (w : World) : Sem.run Tryz.prog (Instr.typeAssert (.iface 108 v) 78 97 true) w = .ok (.tuple #[.agg #[.pointer none], .bool false]) w := by kernel_rfl
theorem tn_pgroup_phandle (v : Value) (w : World) : Sem.run Tryz.prog (Instr.typeAssert (.iface 108 v) 78 98 true) w = .ok (.tuple #[.agg #[.pointer none], .bool false]) w := by kernel_rfl
theorem tn_pgroup_praw (v : Value) (w : World) : Sem.run Tryz.prog (Instr.typeAssert (.iface 108 v) 78 101 true) w = .ok (.tuple #[.agg #[.pointer none], .bool false]) w := by kernel_rfl
theorem tn_pgroup_pserial (v : Value) (w : World) : Sem.run Tryz.prog (Instr.typeAssert (.iface 108 v) 78 103 true) w = .ok (.tuple #[.agg #[.pointer none, .int .u64 0], .bool false]) w := by kernel_rfl
theorem tn_pgroup_plist (v : Value) (w : World) : Sem.run Tryz.prog (Instr.typeAssert (.iface 108 v) 78 106 true) w = .ok (.tuple #[.agg #[.int .i64 0, .nilFunc, .nilFunc], .bool false]) w := by kernel_rfl

end Go.Proofs.YtblbiikfipcbcaaGreatDoor

/-
  Images, the writer: serials, groups, lists.
-/
set_option linter.unusedVariables false
set_option maxRecDepth 20000
namespace Go.Proofs.YtblbiikfipcbcaaGreatDoor
open Go.RowKit Go.Shelf

theorem flat_take_len (ls : List (List Nat)) (k : Nat) : (ls.take k).flatten.length ≤ ls.flatten.length := by
  have h := congrArg (fun l => (List.flatten l).length) (List.take_append_drop k ls)
  simp only [List.flatten_append, List.length_append] at h
  omega

theorem flat_take_snoc {ls : List (List Nat)} {k : Nat} {x : List Nat} (h : ls[k]? = some x) : (ls.take (k + 1)).flatten = (ls.take k).flatten ++ x := by
  rw [List.take_add_one, h]
  simp

end Go.Proofs.YtblbiikfipcbcaaGreatDoor

/-
  Images, the writer: parts that are lists of numbers, and lists of these.
-/
set_option linter.unusedVariables false
set_option maxRecDepth 20000
namespace Go.Proofs.YtblbiikfipcbcaaGreatDoor
open Go.RowKit Go.Shelf

/-- What lies below n0 stays. -/
theorem Kp.low {R Q Q' n0 : Nat} {w w' : World} (k : Kp R w Q w' Q') (hw : n0 ≤ w.heap.size) (hR : n0 ≤ R) (hQ : n0 ≤ Q) : Below n0 w w' ∧ n0 ≤ Q' := by
  refine ⟨k.t.below hw (fun x hx => ?_), ?_⟩
  · simp only [List.mem_cons, List.not_mem_nil, or_false] at hx
    omega
  · have := k.q
    omega

set_option maxHeartbeats 4000000 in
theorem listO_any (w : World) (b o F c n cap : Nat) (a : Option Addr) (hb : b < w.heap.size) (hc : w.cell? ⟨b, o, none⟩ = some (.slice a n cap)) :
    Calls Tryz.prog 50 #[.pointer (some ⟨b, o, none⟩), .func (.func F) #[] #[.pointer (some ⟨c, 0, none⟩)]] w fun e w' => ∃ c2, e = .returned (.iface 106 (.agg #[.int .i64 (n : Int), .func (.func F) #[] #[.pointer (some ⟨c, 0, none⟩)], .func (.func 65) #[] #[.pointer (some ⟨c2, 0, none⟩)]])) ∧ Below w.heap.size w w' := by
  go_enter Tryz.func50, Tryz.ntmps50
  go_upto_region 1 with fail
  have hb1 : Below w.heap.size w (w.alloc (.cells #[.pointer (some ⟨b, o, none⟩)] 110)) := Below.alloc (Below.refl _ _) (Nat.le_refl _) _
  have hx0 := (Kg.heap_cell (heap_alloc_new w (.cells #[.pointer (some ⟨b, o, none⟩)] 110 (0, 0))) 0).trans (show _ = some (.pointer (some ⟨b, o, none⟩)) from rfl)
  have hcl := (hb1.cell (p := ⟨b, o, none⟩) hb).trans hc
  have HB : Hid (Below w.heap.size w (w.alloc (.cells #[.pointer (some ⟨b, o, none⟩)] 110))) := hb1
  clear hc hb1
  generalize w.alloc (.cells #[.pointer (some ⟨b, o, none⟩)] 110) = W at *
  go_wp2
  go_ret
  exact ⟨_, rfl, HB.out⟩

set_option maxHeartbeats 4000000 in
theorem listF_any (w : World) (b o F c n cap : Nat) (a : Option Addr) (hb : b < w.heap.size) (hc : w.cell? ⟨b, o, none⟩ = some (.slice a n cap)) :
    Calls Tryz.prog 53 #[.pointer (some ⟨b, o, none⟩), .func (.func F) #[] #[.pointer (some ⟨c, 0, none⟩)]] w fun e w' => ∃ c2, e = .returned (.iface 106 (.agg #[.int .i64 (n : Int), .func (.func F) #[] #[.pointer (some ⟨c, 0, none⟩)], .func (.func 68) #[] #[.pointer (some ⟨c2, 0, none⟩)]])) ∧ Below w.heap.size w w' := by
  go_enter Tryz.func53, Tryz.ntmps53
  go_upto_region 1 with fail
  have hb1 : Below w.heap.size w (w.alloc (.cells #[.pointer (some ⟨b, o, none⟩)] 113)) := Below.alloc (Below.refl _ _) (Nat.le_refl _) _
  have hx0 := (Kg.heap_cell (heap_alloc_new w (.cells #[.pointer (some ⟨b, o, none⟩)] 113 (0, 0))) 0).trans (show _ = some (.pointer (some ⟨b, o, none⟩)) from rfl)
  have hcl := (hb1.cell (p := ⟨b, o, none⟩) hb).trans hc
  have HB : Hid (Below w.heap.size w (w.alloc (.cells #[.pointer (some ⟨b, o, none⟩)] 113))) := hb1
  clear hc hb1
  generalize w.alloc (.cells #[.pointer (some ⟨b, o, none⟩)] 113) = W at *
  go_wp2
  go_ret
  exact ⟨_, rfl, HB.out⟩

set_option maxHeartbeats 4000000 in
theorem listI_any (w : World) (b o F c n cap : Nat) (a : Option Addr) (hb : b < w.heap.size) (hc : w.cell? ⟨b, o, none⟩ = some (.slice a n cap)) :
    Calls Tryz.prog 56 #[.pointer (some ⟨b, o, none⟩), .func (.func F) #[] #[.pointer (some ⟨c, 0, none⟩)]] w fun e w' => ∃ c2, e = .returned (.iface 106 (.agg #[.int .i64 (n : Int), .func (.func F) #[] #[.pointer (some ⟨c, 0, none⟩)], .func (.func 71) #[] #[.pointer (some ⟨c2, 0, none⟩)]])) ∧ Below w.heap.size w w' := by
  go_enter Tryz.func56, Tryz.ntmps56
  go_upto_region 1 with fail
  have hb1 : Below w.heap.size w (w.alloc (.cells #[.pointer (some ⟨b, o, none⟩)] 117)) := Below.alloc (Below.refl _ _) (Nat.le_refl _) _
  have hx0 := (Kg.heap_cell (heap_alloc_new w (.cells #[.pointer (some ⟨b, o, none⟩)] 117 (0, 0))) 0).trans (show _ = some (.pointer (some ⟨b, o, none⟩)) from rfl)
  have hcl := (hb1.cell (p := ⟨b, o, none⟩) hb).trans hc
  have HB : Hid (Below w.heap.size w (w.alloc (.cells #[.pointer (some ⟨b, o, none⟩)] 117))) := hb1
  clear hc hb1
  generalize w.alloc (.cells #[.pointer (some ⟨b, o, none⟩)] 117) = W at *
  go_wp2
  go_ret
  exact ⟨_, rfl, HB.out⟩

set_option maxHeartbeats 4000000 in
theorem listU_any (w : World) (b o F c n cap : Nat) (a : Option Addr) (hb : b < w.heap.size) (hc : w.cell? ⟨b, o, none⟩ = some (.slice a n cap)) :
    Calls Tryz.prog 66 #[.pointer (some ⟨b, o, none⟩), .func (.func F) #[] #[.pointer (some ⟨c, 0, none⟩)]] w fun e w' => ∃ c2, e = .returned (.iface 106 (.agg #[.int .i64 (n : Int), .func (.func F) #[] #[.pointer (some ⟨c, 0, none⟩)], .func (.func 78) #[] #[.pointer (some ⟨c2, 0, none⟩)]])) ∧ Below w.heap.size w w' := by
  go_enter Tryz.func66, Tryz.ntmps66
  go_upto_region 1 with fail
  have hb1 : Below w.heap.size w (w.alloc (.cells #[.pointer (some ⟨b, o, none⟩)] 126)) := Below.alloc (Below.refl _ _) (Nat.le_refl _) _
  have hx0 := (Kg.heap_cell (heap_alloc_new w (.cells #[.pointer (some ⟨b, o, none⟩)] 126 (0, 0))) 0).trans (show _ = some (.pointer (some ⟨b, o, none⟩)) from rfl)
  have hcl := (hb1.cell (p := ⟨b, o, none⟩) hb).trans hc
  have HB : Hid (Below w.heap.size w (w.alloc (.cells #[.pointer (some ⟨b, o, none⟩)] 126))) := hb1
  clear hc hb1
  generalize w.alloc (.cells #[.pointer (some ⟨b, o, none⟩)] 126) = W at *
  go_wp2
  go_ret
  exact ⟨_, rfl, HB.out⟩

set_option maxHeartbeats 4000000 in
theorem listS_any (w : World) (b o F c n cap : Nat) (a : Option Addr) (hb : b < w.heap.size) (hc : w.cell? ⟨b, o, none⟩ = some (.slice a n cap)) :
    Calls Tryz.prog 69 #[.pointer (some ⟨b, o, none⟩), .func (.func F) #[] #[.pointer (some ⟨c, 0, none⟩)]] w fun e w' => ∃ c2, e = .returned (.iface 106 (.agg #[.int .i64 (n : Int), .func (.func F) #[] #[.pointer (some ⟨c, 0, none⟩)], .func (.func 79) #[] #[.pointer (some ⟨c2, 0, none⟩)]])) ∧ Below w.heap.size w w' := by
  go_enter Tryz.func69, Tryz.ntmps69
  go_upto_region 1 with fail
  have hb1 : Below w.heap.size w (w.alloc (.cells #[.pointer (some ⟨b, o, none⟩)] 115)) := Below.alloc (Below.refl _ _) (Nat.le_refl _) _
  have hx0 := (Kg.heap_cell (heap_alloc_new w (.cells #[.pointer (some ⟨b, o, none⟩)] 115 (0, 0))) 0).trans (show _ = some (.pointer (some ⟨b, o, none⟩)) from rfl)
  have hcl := (hb1.cell (p := ⟨b, o, none⟩) hb).trans hc
  have HB : Hid (Below w.heap.size w (w.alloc (.cells #[.pointer (some ⟨b, o, none⟩)] 115))) := hb1
  clear hc hb1
  generalize w.alloc (.cells #[.pointer (some ⟨b, o, none⟩)] 115) = W at *
  go_wp2
  go_ret
  exact ⟨_, rfl, HB.out⟩

theorem numbers1_enters : ∀ args w, (callFunc 72 args).run Tryz.prog w = .ok (.enter 72 args) w := enters_of Tryz.func72 (by kernel_rfl) rfl
theorem frames1_enters : ∀ args w, (callFunc 70 args).run Tryz.prog w = .ok (.enter 70 args) w := enters_of Tryz.func70 (by kernel_rfl) rfl

theorem numbers1_any (w : World) (c b o i q off n cap : Nat) (hc : w.cell? ⟨c, 0, none⟩ = some (.pointer (some ⟨b, o, none⟩))) (hb : w.cell? ⟨b, o, none⟩ = some (.slice (some ⟨q, off, none⟩) n cap)) (hi : i < n) (hn : n ≤ 1000000000000) :
    Calls Tryz.prog 72 #[.int .i64 (i : Int), .pointer (some ⟨c, 0, none⟩)] w fun e w' => e = .returned (.iface 97 (.agg #[.pointer (some ⟨q, off + i, none⟩)])) ∧ w' = w := by
  have hiI : (i : Int) < (n : Int) := by omega
  go_enter Tryz.func72, Tryz.ntmps72
  go_wp2
  go_ret
  exact ⟨rfl, rfl⟩

theorem frames1_any (w : World) (c b o i q off n cap : Nat) (hc : w.cell? ⟨c, 0, none⟩ = some (.pointer (some ⟨b, o, none⟩))) (hb : w.cell? ⟨b, o, none⟩ = some (.slice (some ⟨q, off, none⟩) n cap)) (hi : i < n) (hn : n ≤ 1000000000000) (Post : World → Value → Prop)
    (hC : Calls Tryz.prog 58 #[.pointer (some ⟨q, off + i, none⟩)] w fun e w' => ∃ u, e = .returned u ∧ Post w' u) :
    Calls Tryz.prog 70 #[.int .i64 (i : Int), .pointer (some ⟨c, 0, none⟩)] w fun e w' => ∃ u, e = .returned u ∧ Post w' u := by
  have hiI : (i : Int) < (n : Int) := by omega
  go_enter Tryz.func70, Tryz.ntmps70
  go_wp2_with fail
  refine hC.mono ?_
  rintro e w2 ⟨u, rfl, hP⟩
  have HP : Hid (Post w2 u) := hP
  clear hC hP
  go_wp2
  go_ret
  exact ⟨_, rfl, HP.out⟩

end Go.Proofs.YtblbiikfipcbcaaGreatDoor

