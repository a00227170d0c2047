/- Own texts, packed: JClone, JHarm. -/
import Derived.Test.YtnenkclihgeacaaDoorP09
/- Own: bytes are appended, wherever they come from. No statement is proved here. -/
namespace Go.Proofs.YtnenkclihgeacaaDoor
set_option maxRecDepth 100000
open Go.RowKit
set_option linter.unusedVariables false
set_option linter.unusedSimpArgs false

theorem run_append_nothing (base : Option Addr) (n cap : Nat) (h : n ≤ cap) (w : World) : (Builtin.append_ #[31, 31] 31 #[.slice base n cap, .slice none 0 0]).run Tryd.prog w = .ok (.slice base n cap) w := by
  obtain ⟨i0, hi, hz0, hz1, hz2⟩ := info_parts Tryd.info5
  cases base <;> simp [Builtin.append_, run_underlying Tryd.underlying31, sizeOf, typeInfo, hi, Builtin.lenOf, Builtin.firstCells, h, storeCells]
/-- append(v, u...) where v is the call's own. -/
theorem run_append_src (w : World) (base : Nat) (v u : Value) (n : Nat) (zs ys : List Int) (ho : w.ownsRow base 5 1 v n (zs.map (Value.int .u8))) (hu : Src w u ys) (hb : base ≤ w.heap.size) (hl : n + ys.length ≤ 1000000) :
    ∃ v' w', (Builtin.append_ #[31, 31] 31 #[v, u]).run Tryd.prog w = .ok v' w' ∧ w'.ownsRow base 5 1 v' (n + ys.length) ((zs ++ ys).map (Value.int .u8)) ∧ Turn (fun q => v.ownBlock = some q) w w' ∧ Fresh w v v' := by
  obtain ⟨i0, hi, hz0, hz1, hz2⟩ := info_parts Tryd.info5
  rcases src_form hu with ⟨rfl, rfl⟩ | ⟨x, cap, rfl⟩
  · have hform : ∃ b c, v = .slice b n c ∧ n ≤ c := by
      rcases ho.2 with ⟨rfl, rfl⟩ | ⟨g, cap, cur, rfl, _, _, hc, _⟩
      · exact ⟨none, 0, rfl, Nat.le_refl _⟩
      · exact ⟨_, cap, rfl, hc⟩
    obtain ⟨b, c, rfl, hc⟩ := hform
    exact ⟨_, w, run_append_nothing b n c hc w, by simpa using ho, Turn.refl _ _, Fresh.refl _ _⟩
  · have hnews : ∀ (j : Nat) q, (ys.map (Value.int .u8))[j]? = some q → w.cell? (x.add j) = some q := by
      intro j q hj
      have hjl : j < ys.length := by have := (List.getElem?_eq_some_iff.1 hj).1; simpa using this
      rcases hu with (⟨h, _⟩ | ⟨g, o', cap', h, hc, hcell⟩) | ⟨_, _, _, rfl⟩
      · cases h
      · cases h
        rw [Addr.add_mid, hcell j hjl]
        simp [hjl] at hj; subst hj; simp [List.getD, hjl]
      · simp at hjl
    obtain ⟨v', w', hr, h2, h3, _⟩ := run_append_own (P := Tryd.prog) w base 31 31 5 i0 _ 1 1 Tryd.underlying31 hi hz0 hz1 hz2 rfl (by decide) v n _ ho x ys.length cap (ys.map (Value.int .u8)) (by simp) hnews (ints_oneCell _ _) (by unfold maxLen; omega) (by omega) hb
    have h5 := run_append_where (P := Tryd.prog) w 31 31 5 i0 _ 1 1 Tryd.underlying31 hi hz0 hz1 hz2 rfl (by decide) base v n _ ho x ys.length cap (ys.map (Value.int .u8)) (by simp) hnews (ints_oneCell _ _) (by unfold maxLen; omega) (by omega) v' w' hr
    exact ⟨v', w', hr, by rw [List.map_append]; exact h2, (Turn.refl (fun q => v.ownBlock = some q) w).grown h3 (fun k h _ => h), h5⟩
theorem own_slice {w : World} {base : Nat} {v : Value} {n : Nat} {xs : List Value} (ho : w.ownsRow base 5 1 v n xs) : ∃ a c, v = .slice a n c ∧ n ≤ c ∧ ∀ k, v.ownBlock = some k → base ≤ k ∧ k < w.heap.size := by
  refine (match ho.2 with | .inl ⟨h, h0⟩ => ⟨none, 0, by rw [h, h0], by omega, fun k hk => ho.lt k hk⟩ | .inr ⟨g, cap, cur, h, _, _, hc, _⟩ => ⟨_, cap, h, hc, fun k hk => ho.lt k hk⟩)
end Go.Proofs.YtnenkclihgeacaaDoor
/- Own contracts: a journal whose disk may stop. No statement is proved here. -/
namespace Go.Proofs.YtnenkclihgeacaaDoor
set_option maxRecDepth 100000
open Go.RowKit
set_option linter.unusedVariables false
set_option linter.unusedSimpArgs false

/-- A number is armed. -/
theorem arm_h (w : World) (F : Nat → Prop) (J D : Nat) (d : DiskM) (L : Nat) (C : List (List Int)) (n : Nat) (k : Int) (h : JC w F J D d L C n) (hk : -9223372036854775808 ≤ k ∧ k < 1000000) :
    Calls Tryd.prog 16 #[.pointer (some ⟨D, 0, none⟩), .int .i64 k] w fun e w' => e = .returned (.tuple #[]) ∧ ∃ F', JC w' F' J D (d.armedBy k) L C n ∧ Step w F w' F' := by
  refine (arm_dh w F D d k h.jh.dh (by omega)).mono ?_
  rintro e w' ⟨rfl, F', hd, hs⟩
  exact ⟨rfl, F', ⟨h.jh.step hd hs rfl, ⟨h.calm.off, h.calm.wet, h.calm.calm⟩, h.set, ⟨h.room.acts, by show k.toNat < _; omega, h.room.wet⟩, h.small, h.lim⟩, hs⟩
/-- What a write leaves: all is well, or it was cut. -/
def Left (r : Int) (d' : DiskM) (L' : Nat) (C C' : List (List Int)) (b : Bool) : Prop :=
  (r = 0 ∧ Calm d' L' C' ∧ Settled d'.safe C' ∧ d'.armed = b) ∨ (r = 9 ∧ ∀ ms, Calm (d'.crashed ms) L' C ∨ Calm (d'.crashed ms) L' C')
theorem write_h2 (w : World) (F R : Nat → Prop) (J D : Nat) (d : DiskM) (L : Nat) (C : List (List Int)) (n : Nat) (v : Value) (l : List (Int × List Int)) (h : JC w F J D d L C (n + 200))
    (hp : PagesIn w R v l) (hR : ∀ k, R k → k < w.heap.size ∧ ¬ F k ∧ k ≠ J) (hb : ∀ x ∈ l, BytesOk x.2) (hl : l.length ≤ 24) (hfit : fitsB C.length l = true) :
    Calls Tryd.prog 59 #[.pointer (some ⟨J, 0, none⟩), v] w fun e w' => ∃ r F' d' L', e = .returned (.int .i64 r) ∧ JH w' F' J D d' L' ∧ StepJ w F J w' F' ∧ Room n d' ∧ L' ≤ L + 1 ∧ Left r d' L' C (putM C l) d.armed := by
  have hlen := h.calm.calm.len
  have hlim := h.lim
  refine (jwrite_any w F R J D d L v l h.jh hp hR hb (by omega) (h.room.less (by omega)) (by omega)).mono ?_
  rintro e w' ⟨rfl, F', hj, hs⟩
  have hfit' : fitsB (d.safe.length - 49) l = true := by rw [hlen, show 49 + C.length - 49 = C.length by omega]; exact hfit
  have hroom := jwrite_room (L := L) (l := l) h.room
  by_cases h0 : l.length = 0
  · have hm : jwriteM d L l = ((d, 0), L) := by unfold jwriteM; rw [if_neg (by omega), if_pos hfit', if_pos h0]
    obtain rfl : l = [] := List.eq_nil_of_length_eq_zero h0
    rw [hm] at hj hroom ⊢
    exact ⟨0, F', d, L, rfl, hj, hs, hroom, by omega, .inl ⟨rfl, by rw [putM_nil]; exact h.calm, by rw [putM_nil]; exact h.set, rfl⟩⟩
  · have hm : jwriteM d L l = (DiskM.run (txA ((L + 1 : Nat) : Int) l) d, L + 1) := by unfold jwriteM; rw [if_neg (by omega), if_pos hfit', if_neg h0]
    rw [hm] at hj hroom ⊢
    rcases write_run h.calm h.set h.small.1 h.small.2 hl hfit (by omega) with ⟨r1, r2, r3, r4⟩ | ⟨_, r1, r2, r3⟩
    · exact ⟨_, F', _, _, rfl, hj, hs, hroom, Nat.le_refl _, .inl ⟨r1, r2, r3, r4⟩⟩
    · exact ⟨_, F', _, _, rfl, hj, hs, hroom, Nat.le_refl _, .inr ⟨r1, r3⟩⟩
/-- A crash, wherever a write left the disk. -/
theorem crash_h2 (w : World) (F : Nat → Prop) (J D : Nat) (d : DiskM) (L : Nat) (C C' : List (List Int)) (n : Nat) (r : Int) (b : Bool) (v : Value) (ms : List Int) (hj : JH w F J D d L) (hroom : Room n d) (hleft : Left r d L C C' b) (hC : 0 < C.length ∧ C.length ≤ 4047) (hC' : 0 < C'.length ∧ C'.length ≤ 4047)
    (hv : Src w v ms) (ho : 0 < ms.length → ∀ k, v.ownBlock = some k → ¬ F k) (hb : BytesOk ms) (hl : ms.length ≤ 9223372036854775807) :
    Calls Tryd.prog 20 #[.pointer (some ⟨D, 0, none⟩), v] w fun e w' => e = .returned (.tuple #[]) ∧ ∃ F' d', (DC w' F' D d' L C' n ∨ (r = 9 ∧ DC w' F' D d' L C n)) ∧ d'.armed = false ∧ Step w F w' F' := by
  refine (crash_dh w F D d v ms hj.dh hroom.fits hv ho hb hl).mono ?_
  rintro e w' ⟨rfl, F', hd, hs⟩
  refine ⟨rfl, F', d.crashed ms, ?_, rfl, hs⟩
  rcases hleft with ⟨_, h1, _, _⟩ | ⟨hr, h1⟩
  · exact .inl ⟨hd, calm_crash h1 ms, room_crash hroom ms, hC'⟩
  · rcases h1 ms with h | h
    · exact .inr ⟨hr, hd, h, room_crash hroom ms, hC⟩
    · exact .inl ⟨hd, h, room_crash hroom ms, hC'⟩
/-- Two pages of three letters. -/
theorem two_lits (w : World) (x1 x2 a b c a' b' c' : Int) :
    PagesIn (((w.alloc (.cells #[.int .u8 a, .int .u8 b, .int .u8 c] 5 (3, 4))).alloc (.cells #[.int .u8 a', .int .u8 b', .int .u8 c'] 5 (3, 4))).alloc (.cells #[.int .i64 x1, .slice (some ⟨w.heap.size, 0, none⟩) 3 3, .int .i64 x2, .slice (some ⟨w.heap.size + 1, 0, none⟩) 3 3] 107)) (fun k => w.heap.size ≤ k ∧ k < w.heap.size + 3) (.slice (some ⟨w.heap.size + 1 + 1, 0, none⟩) 2 2) [(x1, [a, b, c]), (x2, [a', b', c'])] ∧
    Turn (fun _ => False) w (((w.alloc (.cells #[.int .u8 a, .int .u8 b, .int .u8 c] 5 (3, 4))).alloc (.cells #[.int .u8 a', .int .u8 b', .int .u8 c'] 5 (3, 4))).alloc (.cells #[.int .i64 x1, .slice (some ⟨w.heap.size, 0, none⟩) 3 3, .int .i64 x2, .slice (some ⟨w.heap.size + 1, 0, none⟩) 3 3] 107)) ∧
    (((w.alloc (.cells #[.int .u8 a, .int .u8 b, .int .u8 c] 5 (3, 4))).alloc (.cells #[.int .u8 a', .int .u8 b', .int .u8 c'] 5 (3, 4))).alloc (.cells #[.int .i64 x1, .slice (some ⟨w.heap.size, 0, none⟩) 3 3, .int .i64 x2, .slice (some ⟨w.heap.size + 1, 0, none⟩) 3 3] 107)).heap.size = w.heap.size + 3 := by
  have HR1 := reads_marked w [a, b, c] 3 rfl (3, 4)
  have HR2 := reads_marked (w.alloc (.cells #[.int .u8 a, .int .u8 b, .int .u8 c] 5 (3, 4))) [a', b', c'] 3 rfl (3, 4)
  have hsz1 : (w.alloc (.cells #[.int .u8 a, .int .u8 b, .int .u8 c] 5 (3, 4))).heap.size = w.heap.size + 1 := by simp
  rw [hsz1] at HR2
  have hsz2 : ((w.alloc (.cells #[.int .u8 a, .int .u8 b, .int .u8 c] 5 (3, 4))).alloc (.cells #[.int .u8 a', .int .u8 b', .int .u8 c'] 5 (3, 4))).heap.size = w.heap.size + 1 + 1 := by simp
  have tb : Turn (fun _ => False) (w.alloc (.cells #[.int .u8 a, .int .u8 b, .int .u8 c] 5 (3, 4))) ((w.alloc (.cells #[.int .u8 a, .int .u8 b, .int .u8 c] 5 (3, 4))).alloc (.cells #[.int .u8 a', .int .u8 b', .int .u8 c'] 5 (3, 4))) := (Turn.refl _ _).alloc _
  have hpg := pages_two ((w.alloc (.cells #[.int .u8 a, .int .u8 b, .int .u8 c] 5 (3, 4))).alloc (.cells #[.int .u8 a', .int .u8 b', .int .u8 c'] 5 (3, 4))) (fun k => w.heap.size ≤ k ∧ k < w.heap.size + 3) x1 x2 _ _ _ _ (.inl (HR1.turn tb (fun _ _ => id))) (.inl HR2) (fun _ k hk => by have hq : w.heap.size = k := Option.some.inj hk; omega) (fun _ k hk => by have hq : w.heap.size + 1 = k := Option.some.inj hk; omega) (by rw [hsz2]; omega)
  rw [hsz2] at hpg
  refine ⟨hpg, (((Turn.refl _ w).alloc _).alloc _).alloc _, by simp⟩
theorem one_lit (w : World) (x1 a b c : Int) :
    PagesIn ((w.alloc (.cells #[.int .u8 a, .int .u8 b, .int .u8 c] 5 (3, 4))).alloc (.cells #[.int .i64 x1, .slice (some ⟨w.heap.size, 0, none⟩) 3 3] 107)) (fun k => w.heap.size ≤ k ∧ k < w.heap.size + 2) (.slice (some ⟨w.heap.size + 1, 0, none⟩) 1 1) [(x1, [a, b, c])] ∧
    Turn (fun _ => False) w ((w.alloc (.cells #[.int .u8 a, .int .u8 b, .int .u8 c] 5 (3, 4))).alloc (.cells #[.int .i64 x1, .slice (some ⟨w.heap.size, 0, none⟩) 3 3] 107)) ∧
    ((w.alloc (.cells #[.int .u8 a, .int .u8 b, .int .u8 c] 5 (3, 4))).alloc (.cells #[.int .i64 x1, .slice (some ⟨w.heap.size, 0, none⟩) 3 3] 107)).heap.size = w.heap.size + 2 := by
  have HR1 := reads_marked w [a, b, c] 3 rfl (3, 4)
  have hsz1 : (w.alloc (.cells #[.int .u8 a, .int .u8 b, .int .u8 c] 5 (3, 4))).heap.size = w.heap.size + 1 := by simp
  have hpg := pages_one (w.alloc (.cells #[.int .u8 a, .int .u8 b, .int .u8 c] 5 (3, 4))) (fun k => w.heap.size ≤ k ∧ k < w.heap.size + 2) x1 _ _ (.inl HR1) (fun _ k hk => by have hq : w.heap.size = k := Option.some.inj hk; omega) (by rw [hsz1]; omega)
  rw [hsz1] at hpg
  exact ⟨hpg, ((Turn.refl _ w).alloc _).alloc _, by simp⟩
end Go.Proofs.YtnenkclihgeacaaDoor
