/- Own texts, packed: Q24. -/
import Derived.Test.YtboofamenpcnhaaGreatDoorV04
namespace Go.Proofs.YtboofamenpcnhaaGreatDoor
set_option maxRecDepth 100000
open Go.RowKit
set_option linter.unusedVariables false
set_option linter.unusedSimpArgs false
def ReadGood (w : World) (s : List Int) (e : Ending) (w' : World) : Prop :=
  ∃ B, e = .returned (.tuple #[.slice (some ⟨B, 0, none⟩) 64 64, .int .i64 0]) ∧ w.heap.size ≤ B ∧ w'.rangeAt B 0 (secV s) ∧ w'.there B 0 64 ∧ Turn (fun _ => False) w w'
set_option maxHeartbeats 1600000 in
set_option maxRecDepth 100000 in
theorem read_good (w : World) (F : Nat → Prop) (D S sc : Nat) (wv : Value) (d : DiskM) (k : Nat) (h : DiskIn w F D S sc wv d) (hk : k < d.safe.length) (hoff : d.off = false) (hwl : d.wet.length ≤ 1000000000000) :
    Calls Tryz.prog 22 #[.pointer (some ⟨D, 0, none⟩), .int .i64 (k : Int)] w (ReadGood w (d.last k)) := by
  obtain ⟨_, _, _, _, _, c5⟩ := h.head.all
  dsimp only [DiskM.head] at c5
  rw [hoff] at c5
  have HD := Lib.hid h
  have hkv := h.ok.last k hk
  obtain ⟨s, hs⟩ : ∃ s, d.last k = s := ⟨_, rfl⟩
  rw [hs] at hkv ⊢
  have HS := Lib.hid hs
  clear h hs
  go_enter Tryz.func22, Tryz.ntmps22
  go_wp2_with fail
  refine (has_any D d.safe.length sc _ (k : Int) _ w HD.out.head rfl).mono ?_
  rintro e w1 ⟨rfl, rfl⟩
  rw [decide_eq_true (show (0 : Int) ≤ (k : Int) ∧ (k : Int) < (d.safe.length : Int) by omega)]
  go_wp2_with fail
  refine (last_any w1 F D S sc wv d k HD.out hk hwl).mono ?_
  rintro e w2 ⟨rfl, t2⟩
  rw [HS.out]
  go_wp2_with (with_reducible (show wpList _ _ _ (Oper.mk none (.store 108 (.tmp 6) (.tmp 17)) _ _ _ _ :: _) _ _); (generalize hW : World.alloc w2 _ = W; obtain ⟨hth, T1⟩ := zero64 w2 W _ hW (by kernel_rfl); clear hW; refine wpList_store_mid (op := ⟨none, .store 108 (.tmp 6) (.tmp 17), _, _, _, _⟩) rfl 108 (.tmp 6) (.tmp 17) rfl w2.heap.size 0 (secV s).toArray rfl rfl (sec_there hth hkv.1) (sec_size hkv.1) (all_oneCell_toArray (secV_one s)) ?_))
  go_ret2
  have hs2 := t2.size
  refine ⟨w2.heap.size, rfl, hs2, World.rangeAt_setCells_same W _ 0 (secV s) (by rw [secV_len, hkv.1]; exact hth), World.there_setCells hth _ _ _, ?_⟩
  exact (t2.trans T1 (fun _ _ => id)).trans (turn_setCells w2.heap.size (secV s) 0 W) (fun q hq h => by omega)
end Go.Proofs.YtboofamenpcnhaaGreatDoor
