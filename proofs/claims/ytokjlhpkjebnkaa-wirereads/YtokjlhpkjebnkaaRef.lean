/- Own contracts: the document's own Num, a law's num and awake. No statement is proved here. -/
import Derived.Test.YtokjlhpkjebnkaaPen
import Derived.Deep.RegionHeld3
namespace Go.Proofs.Ytokjlhpkjebnkaa
open Go.RowKit
set_option linter.unusedVariables false

/-- A condition on the world may be made a narrower one in the middle of a region. -/
theorem wpAnyH_switch {P : Program} {md : Region.Mode} {ops : Array Oper} {Q : Exit → Act → World → Prop} {S S' : World → Prop} (hS : ∀ w, S w → S' w) :
    ∀ {fuel : Nat} {listed : Array Bool} {a : Act} {w : World}, wpAnyH P md ops Q S fuel listed a w → wpAnyH P md ops Q S' fuel listed a w
  | 0, _, _, _, h => h
  | fuel + 1, _, _, _, h => ⟨h.1, fun i hi => wpOp_mono (fun a' w' h' => ⟨hS _ h'.1, wpAnyH_switch hS h'.2⟩) (h.2 i hi)⟩

def NewBytes (w : World) (ys : List Int) (e : Ending) (w' : World) : Prop :=
  ∃ v', e = .returned v' ∧ w'.ownsRow w.heap.size 5 1 v' ys.length (ys.map (Value.int .u8)) ∧ Turn (fun _ => False) w w'

set_option maxHeartbeats 800000 in
set_option maxRecDepth 100000 in
theorem ref_num (n : Nat) (w : World) (hn : n < 9223372036854775808) :
    Calls Try.prog 34 #[.int .i64 (n : Int)] w (NewBytes w (numB n)) := by
  obtain ⟨i0, hi, hz0, hz1, hz2⟩ := info_parts Try.info5
  have hlen : (numB n).length ≤ 9 := numB_len 8 n (by omega)
  go_enter Try.func34, Try.ntmps34
  go_wp2_with fail
  go_loopw [0, 3] (fun t vr wr => ∃ (m : Nat) (ys : List Int), t = .int .i64 (m : Int) ∧ m ≤ n ∧ numB n = ys ++ numB m ∧ wr.ownsRow w.heap.size 5 1 vr ys.length (ys.map (Value.int .u8)) ∧ Turn (fun _ => False) w wr) (fun t _ _ => (intOf t).toNat)
  case atStart => exact ⟨n, [], rfl, Nat.le_refl _, rfl, World.ownsRow_nil _ _ _ _, Turn.refl _ _⟩
  case round =>
    obtain ⟨m, ys, rfl, hm, hxs, how, htr⟩ := hrel
    have HX := Lib.hid hxs
    clear hxs
    have hys : ys.length + (numB m).length ≤ 9 := by have := congrArg List.length HX.out; simp only [List.length_append] at this; omega
    have hm0 := numB_pos m
    have hsz := htr.size
    by_cases hlt : m < 128
    · have HN := Lib.hid (numB_small hlt)
      go_wp2_with (at_builtin; refine wpList_append_where _ rfl (.tmp 14) (.tmp 18) 49 rfl w.heap.size 5 i0 (.int .u8 0) 1 1 Try.underlying49 hi hz0 hz1 hz2 rfl (by decide) _ ys.length (ys.map (Value.int .u8)) rfl (how.alloc _) ⟨wr.heap.size, 0, none⟩ 1 1 [.int .u8 ((m : Int) + 128)] rfl rfl (one_cell _ _) ?c2 ?c3 ?c4 ?c5 ?_)
      case c2 => intro u hu; simp at hu; subst hu; rfl
      case c3 => unfold maxLen; omega
      case c4 => omega
      case c5 => simp; omega
      intro v' w1 hown hgrow hfresh _
      have hT := (htr.alloc (.cells #[.int .u8 ((m : Int) + 128)] 5)).grown hgrow (fun k h hk => by have := (how.lt k h).1; omega)
      clear hgrow hfresh how
      go_wp2
      go_ret
      refine ⟨_, rfl, ?_, hT⟩
      rw [HX.out, HN.out]
      simpa using hown
    · have HN := Lib.hid (numB_big hlt)
      go_wp2_with (at_builtin; refine wpList_append_where _ rfl (.tmp 6) (.tmp 10) 49 rfl w.heap.size 5 i0 (.int .u8 0) 1 1 Try.underlying49 hi hz0 hz1 hz2 rfl (by decide) _ ys.length (ys.map (Value.int .u8)) rfl (how.alloc _) ⟨wr.heap.size, 0, none⟩ 1 1 [.int .u8 ((m : Int) % 128)] rfl rfl (one_cell _ _) ?d2 ?d3 ?d4 ?d5 ?_)
      case d2 => intro u hu; simp at hu; subst hu; rfl
      case d3 => unfold maxLen; omega
      case d4 => omega
      case d5 => simp; omega
      intro v' w1 hown hgrow hfresh _
      have hT := (htr.alloc (.cells #[.int .u8 ((m : Int) % 128)] 5)).grown hgrow (fun k h hk => by have := (how.lt k h).1; omega)
      clear hgrow hfresh how
      go_wp2
      go_roundw
      case rel =>
        refine ⟨m / 128, ys ++ [((m % 128 : Nat) : Int)], by go_num, by omega, ?_, ?_, hT⟩
        · rw [HX.out, HN.out]; simp
        · simpa using hown
      case measure => simp [intOf]; omega

/-- 'string(v)' of bytes that a call owns. -/
theorem conv_own {w : World} {base : Nat} {v : Value} {xs : List Int} (h : w.ownsRow base 5 1 v xs.length (xs.map (Value.int .u8))) :
    (convert 49 9 v).run Try.prog w = .ok (.string (strOfNums xs)) w := by
  rcases h.2 with ⟨rfl, h0⟩ | ⟨g, cap, cur, rfl, _⟩
  · have hx : xs = [] := List.eq_nil_of_length_eq_zero h0
    subst hx
    rw [run_convert_bytes_nil (P := Try.prog) w 49 5 Try.underlying49 Try.underlying5 0 0 9 Try.underlying9]
    rfl
  · refine run_convert_bytes_arg (P := Try.prog) w 49 5 Try.underlying49 Try.underlying5 g 0 xs.length cap xs rfl ?_ 9 Try.underlying9
    intro i hi
    rw [Nat.zero_add, h.cellAt i (by omega)]
    simp [List.getD, hi]

theorem PenIs.turn {w w' : World} {base B : Nat} {v : Value} {xs : List Int} {S : Nat → Prop} (h : PenIs w base B v xs) (ht : Turn S w w') (hB : ¬ S B) (hv : ∀ k, v.ownBlock = some k → ¬ S k) : PenIs w' base B v xs :=
  ⟨(ht.cell (p := ⟨B, 0, none⟩) h.lt hB).trans h.cell, (ht.frozen (p := ⟨B, 0, none⟩) h.lt hB).trans h.open_, ht.owns h.own hv, h.apart, Nat.lt_of_lt_of_le h.lt ht.size⟩

theorem pen_new (w : World) (base : Nat) : PenIs (w.alloc (.cells #[.slice none 0 0] 76)) base w.heap.size (.slice none 0 0) [] :=
  ⟨by simp, by simp, World.ownsRow_nil _ _ _ _, by simp [Value.ownBlock], by simp⟩

theorem pen_num_at (i : Int) (n : Nat) (h : i = (n : Int)) (base B : Nat) (v : Value) (xs : List Int) (w : World) (hn : n < 9223372036854775808) (hl : xs.length + (numB n).length ≤ 70000000000000) (hbase : base ≤ w.heap.size)
    (hp : PenIs w base B v xs) :
    Calls Try.prog 42 #[.pointer (some ⟨B, 0, none⟩), .int .i64 i] w (PenPost w base B v (xs ++ numB n)) := by
  subst h; exact pen_num base B n v xs w hn hl hbase hp

def FirstPost (w : World) (B : Nat) (ys : List Int) (e : Ending) (w' : World) : Prop :=
  e = .returned (.pointer (some ⟨B, 0, none⟩)) ∧ ∃ v', PenIs w' w.heap.size B v' ys ∧ Turn (fun k => k = B) w w'

theorem pen_first (i : Int) (n : Nat) (h : i = (n : Int)) (base B : Nat) (w : World) (hn : n < 9223372036854775808) (hp : PenIs w base B (.slice none 0 0) []) :
    Calls Try.prog 42 #[.pointer (some ⟨B, 0, none⟩), .int .i64 i] w (FirstPost w B (numB n)) := by
  have hl := numB_len 8 n (by omega)
  refine (pen_num_at i n h w.heap.size B (.slice none 0 0) [] w hn (by simp; omega) (Nat.le_refl _) ⟨hp.cell, hp.open_, World.ownsRow_nil _ _ _ _, hp.apart, hp.lt⟩).mono ?_
  rintro e w' ⟨rfl, v', h1, _, h3⟩
  refine ⟨rfl, v', by simpa using h1, h3.mono ?_⟩
  rintro k _ (h | h)
  · exact h
  · simp [Value.ownBlock] at h

/-- The value of a pen that holds n bytes, n at least one. -/
theorem PenIs.value {w : World} {base B : Nat} {v : Value} {xs : List Int} (h : PenIs w base B v xs) (n : Nat) (hn : xs.length = n) (h0 : 0 < n) : ∃ g cap, v = .slice (some ⟨g, 0, none⟩) n cap := by
  subst hn
  rcases h.own.2 with ⟨_, h⟩ | ⟨g, cap', _, h, _⟩
  · omega
  · exact ⟨g, cap', h⟩

theorem ref_num_at (i : Int) (n : Nat) (h : i = (n : Int)) (w : World) (hn : n < 9223372036854775808) : Calls Try.prog 34 #[.int .i64 i] w (NewBytes w (numB n)) := by
  subst h; exact ref_num n w hn

theorem numB_300 : numB 300 = [44, 130] := by rw [numB_big (by omega), numB_small (by omega)]; decide

theorem toList_nums (xs : List Int) : (strOfNums xs).toList = xs.map fun n => UInt8.ofNat n.toNat := by rw [ByteArray.toList_eq, strOfNums_data]
theorem str_300 : ((strOfNums [44, 130]).toList == [44, 130]) = true := by rw [toList_nums]; decide

end Go.Proofs.Ytokjlhpkjebnkaa
