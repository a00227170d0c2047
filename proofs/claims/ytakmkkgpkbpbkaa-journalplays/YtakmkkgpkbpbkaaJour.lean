/- Own contracts: a journal's small calls. No statement is proved here. -/
import Derived.Test.YtakmkkgpkbpbkaaFoot
namespace Go.Proofs.Ytakmkkgpkbpbkaa
open Go.RowKit
set_option linter.unusedVariables false
set_option linter.unusedSimpArgs false

/-- A journal's two cells. -/
def JAt (w : World) (J D last : Nat) : Prop := w.heap[J]? = some (.cells #[.pointer (some ⟨D, 0, none⟩), .int .i64 (last : Int)] 59 (0, 0))
theorem JAt.lt {w : World} {J D last : Nat} (h : JAt w J D last) : J < w.heap.size := (Array.getElem?_eq_some_iff.1 h).1
theorem JAt.c0 {w : World} {J D last : Nat} (h : JAt w J D last) : w.cell? ⟨J, 0, none⟩ = some (.pointer (some ⟨D, 0, none⟩)) := cell_of_row w J 0 _ 59 (0, 0) h
theorem JAt.c1 {w : World} {J D last : Nat} (h : JAt w J D last) : w.cell? ⟨J, 1, none⟩ = some (.int .i64 (last : Int)) := cell_of_row w J 1 _ 59 (0, 0) h
theorem JAt.f1 {w : World} {J D last : Nat} (h : JAt w J D last) : w.frozen? ⟨J, 1, none⟩ = false := frozen_of_row w J 1 _ 59 h
theorem JAt.turn {w w' : World} {J D last : Nat} {G : Nat → Prop} (h : JAt w J D last) (ht : Turn G w w') (hn : ¬ G J) : JAt w' J D last := (ht.block J h.lt hn).trans h
theorem JAt.set {w : World} {J D last : Nat} (h : JAt w J D last) (n : Nat) : JAt (w.setCell ⟨J, 1, none⟩ (.int .i64 (n : Int))) J D n := by
  unfold JAt
  rw [heap_setCell_same w J 1 _ 59 _ h]; rfl
structure JH (w : World) (F : Nat → Prop) (J D : Nat) (d : DiskM) (last : Nat) : Prop where
  dh : DH w F D d
  jat : JAt w J D last
  nJ : ¬ F J
  big : 49 < d.safe.length
theorem JH.turn0 {w w' : World} {F : Nat → Prop} {J D : Nat} {d : DiskM} {last : Nat} (h : JH w F J D d last) (ht : Turn (fun _ => False) w w') : JH w' F J D d last := ⟨h.dh.turn0 ht, h.jat.turn ht id, h.nJ, h.big⟩
theorem JH.step {w w' : World} {F F' : Nat → Prop} {J D : Nat} {d d' : DiskM} {last : Nat} (h : JH w F J D d last) (hd : DH w' F' D d') (hs : Step w F w' F') (hl : d'.safe.length = d.safe.length) : JH w' F' J D d' last := ⟨hd, h.jat.turn hs.turn h.nJ, hs.out h.jat.lt h.nJ, by rw [hl]; exact h.big⟩

set_option maxHeartbeats 800000 in
set_option maxRecDepth 100000 in
theorem jsectors_any (w : World) (F : Nat → Prop) (J D : Nat) (d : DiskM) (last : Nat) (h : JH w F J D d last) :
    Calls Try.prog 18 #[.pointer (some ⟨J, 0, none⟩)] w fun e w' => e = .returned (.int .i64 ((d.safe.length - 49 : Nat) : Int)) ∧ w' = w := by
  have c0 := h.jat.c0
  have hfew := h.dh.few
  have hbig := h.big
  have HH := Lib.hid h
  clear h
  go_enter Try.func18, Try.ntmps18
  go_wp2_with fail
  refine (sectors_dh w F D d HH.out.dh).mono ?_
  rintro e w1 ⟨rfl, rfl⟩
  have hnn : ¬ ((d.safe.length : Int) - 49 < 0) := by omega
  go_wp2_with fail
  go_ret
  refine ⟨?_, rfl⟩
  show Ending.returned (.int .i64 ((d.safe.length : Int) - 49)) = _
  congr 2
  omega
set_option maxHeartbeats 800000 in
set_option maxRecDepth 100000 in
theorem jon_any (w : World) (F : Nat → Prop) (J D : Nat) (d : DiskM) (last : Nat) (h : JH w F J D d last) :
    Calls Try.prog 19 #[.pointer (some ⟨J, 0, none⟩)] w fun e w' => e = .returned (.bool (!d.off)) ∧ w' = w := by
  have c0 := h.jat.c0
  have HH := Lib.hid h
  clear h
  go_enter Try.func19, Try.ntmps19
  go_wp2_with fail
  refine (on_dh w F D d HH.out.dh).mono ?_
  rintro e w1 ⟨rfl, rfl⟩
  go_wp2_with fail
  go_ret
  exact ⟨rfl, rfl⟩
set_option maxHeartbeats 800000 in
set_option maxRecDepth 100000 in
theorem jhas_any (w : World) (F : Nat → Prop) (J D : Nat) (d : DiskM) (last : Nat) (i : Int) (h : JH w F J D d last) :
    Calls Try.prog 31 #[.pointer (some ⟨J, 0, none⟩), .int .i64 i] w fun e w' => e = .returned (.bool (decide (0 ≤ i ∧ i < ((d.safe.length - 49 : Nat) : Int)))) ∧ w' = w := by
  have HH := Lib.hid h
  clear h
  by_cases h0 : 0 ≤ i
  · have d0 : decide ((0 : Int) ≤ i) = true := by simp [h0]
    go_enter Try.func31, Try.ntmps31
    go_wp2_with fail
    refine (jsectors_any w F J D d last HH.out).mono ?_
    rintro e w1 ⟨rfl, rfl⟩
    go_wp2_with fail
    go_ret
    refine ⟨?_, rfl⟩
    show Ending.returned (.bool (decide (i < ((d.safe.length - 49 : Nat) : Int)))) = _
    simp [h0]
  · have d0 : decide ((0 : Int) ≤ i) = false := by simp; omega
    go_enter Try.func31, Try.ntmps31
    go_wp2_with fail
    go_ret
    exact ⟨rfl, rfl⟩

def JReadPost (w : World) (F : Nat → Prop) (J D : Nat) (d : DiskM) (last : Nat) (s : List Int) (e : Ending) (w' : World) : Prop :=
  ∃ B, e = .returned (.tuple #[.slice (some ⟨B, 0, none⟩) 64 64, .int .i64 0]) ∧ w.heap.size ≤ B ∧ w'.rangeAt B 0 (secV s) ∧ w'.there B 0 64 ∧ JH w' F J D d last ∧ Turn (fun _ => False) w w'
set_option maxHeartbeats 800000 in
set_option maxRecDepth 100000 in
theorem jread_any (w : World) (F : Nat → Prop) (J D : Nat) (d : DiskM) (last k : Nat) (h : JH w F J D d last) (hf : Fits d) (hk : k < d.safe.length - 49) (hoff : d.off = false) :
    Calls Try.prog 17 #[.pointer (some ⟨J, 0, none⟩), .int .i64 (k : Int)] w (JReadPost w F J D d last (d.last (49 + k))) := by
  have c0 := h.jat.c0
  have hfew := h.dh.few
  have HH := Lib.hid h
  clear h
  go_enter Try.func17, Try.ntmps17
  go_wp2_with fail
  refine (jhas_any w F J D d last (k : Int) HH.out).mono ?_
  rintro e w1 ⟨rfl, rfl⟩
  rw [decide_eq_true (show (0 : Int) ≤ (k : Int) ∧ (k : Int) < ((d.safe.length - 49 : Nat) : Int) by omega)]
  go_wp2_with fail
  have hc : (49 : Int) + (k : Int) = ((49 + k : Nat) : Int) := by omega
  rw [hc]
  clear hc
  refine (read_dh w1 F D d (49 + k) HH.out.dh hf (by omega) hoff).mono ?_
  rintro e w2 ⟨B, rfl, hB, hr, hth, hd, t⟩
  go_wp2_with fail
  go_ret2
  exact ⟨B, rfl, hB, hr, hth, HH.out.turn0 t, t⟩
set_option maxHeartbeats 800000 in
set_option maxRecDepth 100000 in
theorem jread_bad (w : World) (F : Nat → Prop) (J D : Nat) (d : DiskM) (last : Nat) (i : Int) (h : JH w F J D d last) (hk : ¬ (0 ≤ i ∧ i < ((d.safe.length - 49 : Nat) : Int))) :
    Calls Try.prog 17 #[.pointer (some ⟨J, 0, none⟩), .int .i64 i] w fun e w' => e = .returned (.tuple #[.slice none 0 0, .int .i64 1]) ∧ w' = w := by
  have HH := Lib.hid h
  clear h
  go_enter Try.func17, Try.ntmps17
  go_wp2_with fail
  refine (jhas_any w F J D d last i HH.out).mono ?_
  rintro e w1 ⟨rfl, rfl⟩
  rw [decide_eq_false hk]
  go_wp2_with fail
  go_ret2
  exact ⟨rfl, rfl⟩
set_option maxHeartbeats 800000 in
set_option maxRecDepth 100000 in
theorem jnext_any (w : World) (F : Nat → Prop) (J D : Nat) (d : DiskM) (last : Nat) (h : JH w F J D d last) (hl : last < 4294967295) :
    Calls Try.prog 26 #[.pointer (some ⟨J, 0, none⟩)] w fun e w' => e = .returned (.tuple #[.int .i64 ((last + 1 : Nat) : Int), .int .i64 0]) ∧ JH w' F J D d (last + 1) ∧ Turn (fun k => k = J) w w' := by
  have c1 := h.jat.c1
  have f1 := h.jat.f1
  have HH := Lib.hid h
  clear h
  have hd : decide ((last : Int) < 4294967295) = true := by simp; omega
  have hd' : decide (last < 4294967295) = true := by simp; omega
  go_enter Try.func26, Try.ntmps26
  go_wp2_with fail
  go_ret2
  have e1 : (last : Int) + 1 = ((last + 1 : Nat) : Int) := by omega
  rw [e1]
  have t : Turn (fun k => k = J) w (w.setCell ⟨J, 1, none⟩ (.int .i64 ((last + 1 : Nat) : Int))) := turn_cell w J 1 _
  exact ⟨rfl, ⟨HH.out.dh.turn t (fun k hk e => HH.out.nJ (e ▸ hk)), HH.out.jat.set (last + 1), HH.out.nJ, HH.out.big⟩, t⟩

/-! A nil journal. -/
set_option maxHeartbeats 800000 in
set_option maxRecDepth 100000 in
theorem nilj_sectors (w : World) : Calls Try.prog 18 #[.pointer none] w fun e w' => e = .returned (.int .i64 0) ∧ w' = w := by
  go_enter Try.func18, Try.ntmps18
  go_wp2_with fail
  go_ret
  exact ⟨rfl, rfl⟩
set_option maxHeartbeats 800000 in
set_option maxRecDepth 100000 in
theorem nilj_on (w : World) : Calls Try.prog 19 #[.pointer none] w fun e w' => e = .returned (.bool false) ∧ w' = w := by
  go_enter Try.func19, Try.ntmps19
  go_wp2_with fail
  go_ret
  exact ⟨rfl, rfl⟩
set_option maxHeartbeats 800000 in
set_option maxRecDepth 100000 in
theorem nilj_write (w : World) (v : Value) : Calls Try.prog 13 #[.pointer none, v] w fun e w' => e = .returned (.int .i64 2) ∧ w' = w := by
  go_enter Try.func13, Try.ntmps13
  go_wp2_with fail
  go_ret
  exact ⟨rfl, rfl⟩
set_option maxHeartbeats 800000 in
set_option maxRecDepth 100000 in
theorem nilj_has (w : World) (i : Int) : Calls Try.prog 31 #[.pointer none, .int .i64 i] w fun e w' => e = .returned (.bool false) ∧ w' = w := by
  by_cases h0 : 0 ≤ i
  · have d0 : decide ((0 : Int) ≤ i) = true := by simp [h0]
    have d1 : decide (i < (0 : Int)) = false := by simp; omega
    go_enter Try.func31, Try.ntmps31
    go_wp2_with fail
    refine (nilj_sectors w).mono ?_
    rintro e w1 ⟨rfl, rfl⟩
    go_wp2_with fail
    go_ret
    exact ⟨rfl, rfl⟩
  · have d0 : decide ((0 : Int) ≤ i) = false := by simp; omega
    go_enter Try.func31, Try.ntmps31
    go_wp2_with fail
    go_ret
    exact ⟨rfl, rfl⟩
set_option maxHeartbeats 800000 in
set_option maxRecDepth 100000 in
theorem nilj_read (w : World) (i : Int) : Calls Try.prog 17 #[.pointer none, .int .i64 i] w fun e w' => e = .returned (.tuple #[.slice none 0 0, .int .i64 1]) ∧ w' = w := by
  go_enter Try.func17, Try.ntmps17
  go_wp2_with fail
  refine (nilj_has w i).mono ?_
  rintro e w1 ⟨rfl, rfl⟩
  go_wp2_with fail
  go_ret2
  exact ⟨rfl, rfl⟩
end Go.Proofs.Ytakmkkgpkbpbkaa
