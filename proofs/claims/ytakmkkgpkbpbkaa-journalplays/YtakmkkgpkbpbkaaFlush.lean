/- Own contracts: flushes, arms, crashes; a new disk. No statement is proved here. -/
import Derived.Test.YtakmkkgpkbpbkaaKeep
namespace Go.Proofs.Ytakmkkgpkbpbkaa
open Go.RowKit
set_option linter.unusedVariables false
set_option linter.unusedSimpArgs false

def DiskM.flushed (d : DiskM) : DiskM := { d with safe := keepK d.safe d.wet (fun _ => true) d.wet.length, wet := [] }
def DiskM.crashed (d : DiskM) (ms : List Int) : DiskM := { d with safe := keepK d.safe d.wet (maskB ms) d.wet.length, wet := [], off := false, armed := false, left := 0 }
def DiskM.armedBy (d : DiskM) (n : Int) : DiskM := { d with armed := decide (0 ≤ n), left := n.toNat }

def DiskPost (w : World) (F : Nat → Prop) (D S sc : Nat) (wv : Value) (d' : DiskM) (r : Value) (e : Ending) (w' : World) : Prop :=
  e = .returned r ∧ DiskIn w' F D S sc wv d' ∧ Turn F w w'

set_option maxHeartbeats 1600000 in
set_option maxRecDepth 100000 in
theorem flush_off (w : World) (F : Nat → Prop) (D S sc : Nat) (wv : Value) (d : DiskM) (h : DiskIn w F D S sc wv d) (hoff : d.off = true) :
    Calls Try.prog 39 #[.pointer (some ⟨D, 0, none⟩)] w fun e w' => e = .returned (.int .i64 9) ∧ w' = w := by
  obtain ⟨_, _, _, _, _, c5⟩ := h.head.all
  dsimp only [DiskM.head] at c5
  rw [hoff] at c5
  clear h
  go_enter Try.func39, Try.ntmps39
  go_wp2_with fail
  go_ret
  exact ⟨rfl, rfl⟩

set_option maxHeartbeats 1600000 in
set_option maxRecDepth 100000 in
theorem flush_stop (w : World) (F : Nat → Prop) (D S sc : Nat) (wv : Value) (d : DiskM) (h : DiskIn w F D S sc wv d) (hoff : d.off = false) (he : d.actE = 9) (hb : d.acts < 4611686018427387904) (hl : d.left < 4611686018427387904) :
    Calls Try.prog 39 #[.pointer (some ⟨D, 0, none⟩)] w (DiskPost w F D S sc wv d.act (.int .i64 9)) := by
  obtain ⟨_, _, _, _, _, c5⟩ := h.head.all
  dsimp only [DiskM.head] at c5
  rw [hoff] at c5
  have HD := Lib.hid h
  clear h
  go_enter Try.func39, Try.ntmps39
  go_wp2_with fail
  refine (disk_act w F D S sc wv d HD.out hb hl).mono ?_
  rintro e w1 ⟨rfl, hd1, t1⟩
  rw [he]
  have H1 := Lib.hid hd1
  clear hd1 c5
  go_wp2_with fail
  go_ret
  exact ⟨rfl, H1.out, t1.mono (fun q hq h => h ▸ HD.out.fD)⟩

set_option maxHeartbeats 1600000 in
set_option maxRecDepth 100000 in
theorem flush_good (w : World) (F : Nat → Prop) (D S sc : Nat) (wv : Value) (d : DiskM) (h : DiskIn w F D S sc wv d) (hoff : d.off = false) (he : d.actE = 0) (hb : d.acts < 4611686018427387904) (hl : d.left < 4611686018427387904) (hwl : d.wet.length ≤ 1000000000000) :
    Calls Try.prog 39 #[.pointer (some ⟨D, 0, none⟩)] w (DiskPost w F D S sc (.slice none 0 0) d.act.flushed (.int .i64 0)) := by
  obtain ⟨_, _, _, _, _, c5⟩ := h.head.all
  dsimp only [DiskM.head] at c5
  rw [hoff] at c5
  have HD := Lib.hid h
  clear h
  go_enter Try.func39, Try.ntmps39
  go_wp2_with fail
  refine (disk_act w F D S sc wv d HD.out hb hl).mono ?_
  rintro e w1 ⟨rfl, hd1, t1⟩
  rw [he]
  have H1 := Lib.hid hd1
  clear hd1 c5
  go_wp2_with fail
  refine (keep_all w1 F D S sc wv d.act H1.out (by rw [(DiskM.act_same d).2.1]; exact hwl)).mono ?_
  rintro e w2 ⟨rfl, hd2, t2⟩
  have H2 := Lib.hid hd2
  clear hd2
  go_wp2_with fail
  go_ret
  refine ⟨rfl, H2.out, (t1.mono (fun q hq h => h ▸ HD.out.fD)).trans t2 (fun q hq h => ?_)⟩
  rcases h with h | h
  · exact h ▸ HD.out.fS
  · exact h ▸ HD.out.fD

theorem disk_arm (w : World) (F : Nat → Prop) (D S sc : Nat) (wv : Value) (d : DiskM) (n : Int) (h : DiskIn w F D S sc wv d) (hn : -9223372036854775808 ≤ n ∧ n < 9223372036854775808) :
    Calls Try.prog 12 #[.pointer (some ⟨D, 0, none⟩), .int .i64 n] w (DiskPost w F D S sc wv (d.armedBy n) (.tuple #[])) := by
  refine (arm_any D _ w n h.head hn).mono ?_
  rintro e w' ⟨rfl, hH, hT⟩
  refine ⟨rfl, ?_, hT.mono (fun q hq e => e ▸ h.fD)⟩
  exact { head := hH, cap := h.cap, safe := h.safe.turn hT (fun e => h.nDS e.symm), slt := Nat.lt_of_lt_of_le h.slt hT.size, wet := hT.owns h.wet (fun k hk e => h.nDw (by rw [hk, e])), fD := h.fD, fS := h.fS, fw := h.fw, nDS := h.nDS, nDw := h.nDw, nSw := h.nSw, ok := h.ok.of_same rfl rfl, few := h.few }

theorem DiskIn.setOff {w : World} {F : Nat → Prop} {D S sc : Nat} {wv : Value} {d : DiskM} (h : DiskIn w F D S sc wv d) (b : Bool) :
    DiskIn (w.setCell ⟨D, 5, none⟩ (.bool b)) F D S sc wv { d with off := b } := by
  have hT := turn_cell w D 5 (.bool b)
  exact { head := h.head.set 5 _ rfl, cap := h.cap, safe := h.safe.turn hT (fun e => h.nDS e.symm), slt := Nat.lt_of_lt_of_le h.slt hT.size, wet := hT.owns h.wet (fun k hk e => h.nDw (by rw [hk, e])), fD := h.fD, fS := h.fS, fw := h.fw, nDS := h.nDS, nDw := h.nDw, nSw := h.nSw, ok := h.ok.of_same rfl rfl, few := h.few }

set_option maxHeartbeats 1600000 in
set_option maxRecDepth 100000 in
theorem crash_any (w : World) (F : Nat → Prop) (D S sc : Nat) (wv : Value) (d : DiskM) (v : Value) (ms : List Int) (h : DiskIn w F D S sc wv d) (hv : Src w v ms) (hvF : 0 < ms.length → ∀ k, v.ownBlock = some k → ¬ F k) (hbm : BytesOk ms) (hml : ms.length ≤ 9223372036854775807) (hwl : d.wet.length ≤ 1000000000000) :
    Calls Try.prog 16 #[.pointer (some ⟨D, 0, none⟩), v] w (DiskPost w F D S sc (.slice none 0 0) (d.crashed ms) (.tuple #[])) := by
  have HD := Lib.hid h
  have HV := Lib.hid hv
  obtain ⟨a, c, rfl, _⟩ := src_any hv
  clear h hv
  have hslt := HD.out.slt
  go_enter Try.func16, Try.ntmps16
  go_wp2_with fail
  have T1 := (Turn.refl (fun _ => False) w).alloc (.cells #[.slice a ms.length c] 31)
  have hM : (w.alloc (.cells #[.slice a ms.length c] 31)).cell? ⟨w.heap.size, 0, none⟩ = some (.slice a ms.length c) := by
    rw [cell_of_row _ _ _ _ 31 (0, 0) (heap_alloc_new w _)]; rfl
  generalize w.alloc (.cells #[.slice a ms.length c] 31) = w1 at T1 hM ⊢
  have HD1 := Lib.hid (HD.out.turn T1 (fun _ _ => id))
  refine (keep_mask w1 F D S sc wv d HD1.out hwl w.heap.size _ ms hM (by omega) (HV.out.turn T1 (fun _ _ => id)) (fun h0 e => hvF h0 S e HD.out.fS) hbm hml).mono ?_
  rintro e w2 ⟨rfl, hd2, t2⟩
  have H2 := Lib.hid hd2
  obtain ⟨_, _, _, _, _, c5⟩ := hd2.head.all
  have f5 := hd2.head.free 5
  dsimp only [DiskM.head] at c5
  clear hd2 hM
  go_wp2_with fail
  have hd3 := H2.out.setOff false
  have t3 := turn_cell w2 D 5 (.bool false)
  generalize w2.setCell ⟨D, 5, none⟩ (.bool false) = w3 at hd3 t3 ⊢
  refine (disk_arm w3 F D S sc _ _ (-1) hd3 (by omega)).mono ?_
  rintro e w4 ⟨rfl, hd4, t4⟩
  have H4 := Lib.hid hd4
  clear hd3 hd4
  go_wp2_with fail
  go_end0
  refine ⟨rfl, H4.out, (((T1.mono (T := F) (fun _ _ h => h.elim)).trans t2 (fun q hq h => ?_)).trans t3 (fun q hq h => h ▸ HD.out.fD)).trans t4 (fun _ _ h => h)⟩
  rcases h with h | h
  · exact h ▸ HD.out.fS
  · exact h ▸ HD.out.fD
end Go.Proofs.Ytakmkkgpkbpbkaa
