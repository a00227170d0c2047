/- Own contracts: the laws' first look. No statement is proved here. -/
import Derived.Test.YtckeackepolhdaaTwin
import Derived.Lib.SlBytesConst
namespace Go.Proofs.Ytckeackepolhdaa
open Go.RowKit
set_option linter.unusedVariables false
set_option linter.unusedSimpArgs false

/-- The least footprint. -/
def Foot (D S : Nat) (wv : Value) (k : Nat) : Prop := k = D ∨ k = S ∨ wv.ownBlock = some k
theorem DiskIn.small {w : World} {F : Nat → Prop} {D S sc : Nat} {wv : Value} {d : DiskM} (h : DiskIn w F D S sc wv d) : DiskIn w (Foot D S wv) D S sc wv d :=
  { h with fD := .inl rfl, fS := .inr (.inl rfl), fw := fun k hk => .inr (.inr hk) }
theorem DiskIn.foot_lt {w : World} {F : Nat → Prop} {D S sc : Nat} {wv : Value} {d : DiskM} (h : DiskIn w F D S sc wv d) : ∀ k, Foot D S wv k → k < w.heap.size := fun k hk => by
  rcases hk with rfl | rfl | hk
  · exact h.head.lt
  · exact h.slt
  · exact (h.wet.lt k hk).2
theorem DiskIn.foot_in {w : World} {F : Nat → Prop} {D S sc : Nat} {wv : Value} {d : DiskM} (h : DiskIn w F D S sc wv d) : ∀ k, Foot D S wv k → F k := fun k hk => by
  rcases hk with rfl | rfl | hk
  · exact h.fD
  · exact h.fS
  · exact h.fw k hk

theorem one_reads (w : World) (x : Int) (fr : Nat × Nat) : Reads (w.alloc (.cells #[.int .u8 x] 5 fr)) (.slice (some ⟨w.heap.size, 0, none⟩) 1 1) [x] := by
  refine .inr ⟨w.heap.size, 0, 1, rfl, by simp, fun i hi => ?_⟩
  rw [Nat.zero_add, cell_of_row _ _ _ _ 5 fr (heap_alloc_new w _)]
  match i, hi with
  | 0, _ => rfl
theorem conv_one (w : World) (x : Int) : (convert 27 27 (.slice (some ⟨w.heap.size, 0, none⟩) 1 1)).run Try.prog (w.alloc (.cells #[.int .u8 x] 5)) = .ok (.slice (some ⟨w.heap.size, 0, none⟩) 1 1) (w.alloc (.cells #[.int .u8 x] 5 (1, 2))) :=
  Lib.run_convert_bytes_const w 27 5 _ 1 1 Try.underlying27 Try.underlying5
def AwakePost (w : World) (e : Ending) (w' : World) : Prop := e = .returned (.bool true) ∧ Turn (fun _ => False) w w'

def awD : DiskM := ({ newM 2 with wet := (newM 2).wet ++ [(0, pad64 [97])] } : DiskM).act
theorem aw1 : ((awD.crashed []).last 0).getD 0 1 = 0 := by kernel_rfl
theorem aw2 : ((awD.crashed [1]).last 0).getD 0 1 = 97 := by kernel_rfl
theorem nil_src (w : World) : Src w (.slice none 0 0) [] := .inl (.inl ⟨rfl, rfl⟩)
theorem one_ok (x : Int) (h : 0 ≤ x ∧ x < 256) : BytesOk [x] := fun y hy => by
  obtain rfl : y = x := by simpa using hy
  exact h
theorem range_first {w : World} {B : Nat} {s : List Int} (h : w.rangeAt B 0 (secV s)) (hs : s.length = 64) : w.cell? ⟨B, 0, none⟩ = some (.int .u8 (s.getD 0 1)) := by
  have := h 0 (.int .u8 (s.getD 0 1)) (by simp [secV, List.getD, hs])
  rwa [Nat.zero_add] at this

set_option maxHeartbeats 4000000 in
set_option maxRecDepth 100000 in
theorem awake_any (w : World) : Calls Try.prog 9 #[] w (AwakePost w) := by
  go_enter Try.func9, Try.ntmps9
  go_wp2_with fail
  refine (new_any 2 w 2 rfl).mono ?_
  rintro e w1 ⟨F1, D, S1, sc1, rfl, hd1, hF1, t1⟩
  have HD1 := Lib.hid hd1
  have hcv := conv_one w1 97
  clear hd1
  go_wp2_with fail
  have t1a := (Turn.refl (fun _ => False) w1).alloc (.cells #[.int .u8 97] 5 (1, 2))
  have HS1 := Lib.hid (one_reads w1 97 (1, 2))
  generalize w1.alloc (.cells #[.int .u8 97] 5 (1, 2)) = w2 at t1a HS1 ⊢
  generalize w1.heap.size = B1 at HS1 ⊢
  have T2 := t1.trans t1a (fun _ _ => id)
  refine (write_good w2 F1 D S1 sc1 _ (newM 2) 0 _ [97] (HD1.out.turn t1a (fun _ _ => id)) (by decide) rfl (.inl HS1.out) (one_ok 97 (by decide)) (by decide) (by decide) (by decide) (by decide)).mono ?_
  rintro e w3 ⟨rfl, F3, S3, sc3, wv3, hd3, hgr, t3⟩
  have T3 := T2.trans t3 (fun k hk h => by have := hF1 k h; omega)
  have hF3 : ∀ k, F3 k → w.heap.size ≤ k := fun k hk => by
    have h1 := T2.size
    rcases hgr.2 k hk with h | h
    · exact hF1 k h
    · omega
  have HD3 := Lib.hid hd3.small
  have hlt3 := hd3.foot_lt
  have hF3' : ∀ k, Foot D S3 wv3 k → w.heap.size ≤ k := fun k hk => hF3 k (hd3.foot_in k hk)
  clear hd3 hgr t3 T2 t1 t1a hcv
  go_wp2_with fail
  refine (twin_any w3 _ D S3 sc3 wv3 _ HD3.out (by decide)).mono ?_
  rintro e w4 ⟨F4, C, S4, sc4, wv4, rfl, hc4, hF4, t4⟩
  have T4 := T3.trans t4 (fun _ _ => id)
  have hz3 := T3.size
  have HC4 := Lib.hid hc4
  have HD4 := Lib.hid (HD3.out.turn t4 (fun _ _ => id))
  have hdis : ∀ k, Foot D S3 wv3 k → ¬ F4 k := fun k h1 h2 => by have := hlt3 k h1; have := hF4 k h2; omega
  clear hc4 t4 T3
  go_wp2_with fail
  refine (crash_any w4 _ D S3 sc3 wv3 _ _ [] HD4.out (nil_src w4) (fun _ k hk => (by cases hk)) (fun x hx => (by cases hx)) (by decide) (by decide)).mono ?_
  rintro e w5 ⟨rfl, hd5, t5⟩
  have T5 := T4.trans t5 (fun k hk h => by have := hF3' k h; omega)
  have HC5 := Lib.hid (HC4.out.turn t5 (fun k h1 h2 => hdis k h2 h1))
  have HD5 := Lib.hid hd5
  clear hd5 t5 T4
  go_wp2_with fail
  have t5a := (Turn.refl (fun _ => False) w5).alloc (.cells #[.int .u8 1] 5)
  have HS5 := Lib.hid (one_reads w5 1 (0, 0))
  have hB5 : ∀ k, (Value.slice (some ⟨w5.heap.size, 0, none⟩) 1 1).ownBlock = some k → k = w5.heap.size := fun k hk => by simp [Value.ownBlock] at hk; exact hk.symm
  have hlt5 := HC5.out.foot_lt
  have hin5 := HC5.out.foot_in
  generalize w5.alloc (.cells #[.int .u8 1] 5) = w6 at t5a HS5 ⊢
  have T6 := T5.trans t5a (fun _ _ => id)
  refine (crash_any w6 _ C S4 sc4 wv4 _ _ [1] ((HC5.out.small).turn t5a (fun _ _ => id)) (.inl HS5.out) (fun _ k hk h => by have := hB5 k hk; have := hlt5 k h; omega) (one_ok 1 (by decide)) (by decide) (by decide)).mono ?_
  rintro e w7 ⟨rfl, hc7, t7⟩
  have T7 := T6.trans t7 (fun k hk h => by have := hF4 k (hin5 k h); omega)
  have HD7 := Lib.hid ((HD5.out.turn t5a (fun _ _ => id)).turn t7 (fun k h1 h2 => hdis k h1 (hin5 k h2)))
  have HC7 := Lib.hid hc7
  clear hc7 t7 T6 t5a T5 hB5 hlt5 hin5
  go_wp2_with fail
  refine (read_good w7 _ D S3 sc3 _ _ 0 HD7.out (by decide) rfl (by decide)).mono ?_
  rintro e w8 ⟨B8, rfl, hB8, hr8, hth8, t8⟩
  have T8 := T7.trans t8 (fun _ _ => id)
  have hc8 : w8.cell? ⟨B8, 0, none⟩ = some (.int .u8 0) := (range_first hr8 (HD7.out.ok.last 0 (by decide)).1).trans (congrArg (fun x => some (Value.int .u8 x)) aw1)
  have HC8 := Lib.hid (HC7.out.turn t8 (fun _ _ => id))
  clear hr8 hth8 t8 T7
  go_wp2_with fail
  refine (read_good w8 _ C S4 sc4 _ _ 0 HC8.out (by decide) rfl (by decide)).mono ?_
  rintro e w9 ⟨B9, rfl, hB9, hr9, hth9, t9⟩
  have T9 := T8.trans t9 (fun _ _ => id)
  have hc9 : w9.cell? ⟨B9, 0, none⟩ = some (.int .u8 97) := (range_first hr9 (HC8.out.ok.last 0 (by decide)).1).trans (congrArg (fun x => some (Value.int .u8 x)) aw2)
  have hc8' := (t9.cell (p := ⟨B8, 0, none⟩) (World.block_lt_of_cell? w8 _ hc8) id).trans hc8
  clear hr9 hth9 t9 T8 hc8
  go_wp2_with fail
  go_ret
  exact ⟨rfl, T9⟩
end Go.Proofs.Ytckeackepolhdaa
