/- Own contracts: a journal beside a list of sectors and pages; a disk that stops while it is opened. No statement is proved here. -/
import Derived.Test.YtakmkkgpkbpbkaaHarm
import Derived.Test.YtakmkkgpkbpbkaaPutn
import Derived.Test.YtakmkkgpkbpbkaaPagm
import Derived.Test.YtakmkkgpkbpbkaaMany
namespace Go.Proofs.Ytakmkkgpkbpbkaa
open Go.RowKit
set_option linter.unusedVariables false
set_option linter.unusedSimpArgs false

theorem Calm.more {d : DiskM} {L L' : Nat} {C : List (List Int)} (h : Calm d L C) (hl : L ≤ L') : Calm d L' C := ⟨h.off, h.wet, h.calm.len, h.calm.cont, fun k hk => Nat.le_trans (h.calm.nums k hk) hl, h.calm.good⟩
theorem DC.less {w : World} {F : Nat → Prop} {D : Nat} {d : DiskM} {L : Nat} {C : List (List Int)} {n m : Nat} (h : DC w F D d L C n) (hm : m ≤ n) : DC w F D d L C m := { h with room := h.room.less hm }
/-- A number is armed, at rest. -/
theorem arm_dc (w : World) (F : Nat → Prop) (D : Nat) (d : DiskM) (L : Nat) (C : List (List Int)) (n : Nat) (k : Int) (h : DC w F D d L C n) (hk : -9223372036854775808 ≤ k ∧ k < 1000000) :
    Calls Try.prog 12 #[.pointer (some ⟨D, 0, none⟩), .int .i64 k] w fun e w' => e = .returned (.tuple #[]) ∧ ∃ F', DC w' F' D (d.armedBy k) L C n ∧ Step w F w' F' := by
  refine (arm_dh w F D d k h.dh (by omega)).mono ?_
  rintro e w' ⟨rfl, F', hd, hs⟩
  exact ⟨rfl, F', ⟨hd, ⟨h.calm.off, h.calm.wet, h.calm.calm⟩, ⟨h.room.acts, by show k.toNat < _; omega, h.room.wet⟩, h.small⟩, hs⟩
/-- Opened, where it may stop. -/
def Opened (w' : World) (F' : Nat → Prop) (D : Nat) (L : Nat) (C : List (List Int)) (n : Nat) (e : Ending) : Prop :=
  (∃ J d', e = .returned (.tuple #[.pointer (some ⟨J, 0, none⟩), .int .i64 0]) ∧ DC w' F' D d' L C n) ∨
  (∃ d', e = .returned (.tuple #[.pointer none, .int .i64 9]) ∧ DH w' F' D d' ∧ Room n d' ∧ ∀ ms, Calm (d'.crashed ms) L C)
theorem open_h2 (w : World) (F : Nat → Prop) (D : Nat) (d : DiskM) (L : Nat) (C : List (List Int)) (n : Nat) (h : DC w F D d L C (n + 100)) :
    Calls Try.prog 10 #[.pointer (some ⟨D, 0, none⟩)] w fun e w' => ∃ F', Step w F w' F' ∧ Opened w' F' D L C n e := by
  have hlen := h.calm.calm.len
  refine (open_any w F D d h.dh (h.room.less (by omega)) (by have := h.small.1; omega) h.calm.off).mono ?_
  rintro e w' ⟨F', hd, hs, hp⟩
  refine ⟨F', hs, ?_⟩
  rcases open_run h.calm h.small.1 with ⟨r1, r2, r3, r4, r5⟩ | ⟨r0, r1, r2, r3⟩
  · rw [if_pos r1] at hp
    obtain ⟨J, rfl, hJ, hjh⟩ := hp
    exact .inl ⟨J, _, rfl, hd, r2.more r4, open_room h.room h.dh.ok, h.small⟩
  · rw [if_neg (by rw [r1]; decide), r1] at hp
    exact .inr ⟨_, hp, hd, open_room h.room h.dh.ok, r3⟩
/-- A crash of a disk that stopped while it was opened. -/
theorem crash_op (w : World) (F : Nat → Prop) (D : Nat) (d : DiskM) (L : Nat) (C : List (List Int)) (n : Nat) (v : Value) (ms : List Int) (hd : DH w F D d) (hroom : Room n d) (hc : ∀ ms, Calm (d.crashed ms) L C) (hC : 0 < C.length ∧ C.length ≤ 4047)
    (hv : Src w v ms) (ho : 0 < ms.length → ∀ k, v.ownBlock = some k → ¬ F k) (hb : BytesOk ms) (hl : ms.length ≤ 9223372036854775807) :
    Calls Try.prog 16 #[.pointer (some ⟨D, 0, none⟩), v] w fun e w' => e = .returned (.tuple #[]) ∧ ∃ F' d', DC w' F' D d' L C n ∧ Step w F w' F' := by
  refine (crash_dh w F D d v ms hd hroom.fits hv ho hb hl).mono ?_
  rintro e w' ⟨rfl, F', hd', hs⟩
  exact ⟨rfl, F', _, ⟨hd', hc ms, room_crash hroom ms, hC⟩, hs⟩

theorem MAt.turnG {w w' : World} {R G : Nat → Prop} {g : Nat} {us : List Value} {ms : List (List Int)} (h : MAt w R g us ms) (T : Turn G w w') (hR : ∀ q, R q → ¬ G q) (hg : ¬ G g) (hgl : g < w.heap.size) : MAt w' R g us ms :=
  ⟨h.1, fun j hj => (T.cell (p := ⟨g, j, none⟩) hgl hg).trans (h.2.1 j hj), fun j hj => (h.2.2 j hj).turn T (fun q hq _ => hR q hq)⟩
theorem MAt.low {w : World} {R : Nat → Prop} {g : Nat} {us : List Value} {ms : List (List Int)} (h : MAt w R g us ms) : MAt w (fun q => R q ∧ q < w.heap.size) g us ms :=
  ⟨h.1, h.2.1, fun j hj => by obtain ⟨g', c, e1, e2, e3, e4, e5⟩ := h.2.2 j hj; exact ⟨g', c, e1, e2, ⟨e3, e4⟩, e4, e5⟩⟩
/-- What stands beside a disk: the list of sectors, and the pages. -/
structure MS (w0 w : World) (G R Rp : Nat → Prop) (g : Nat) (us : List Value) (M : List (List Int)) (pv : Value) (l : List (Int × List Int)) : Prop where
  foot : ∀ q, G q → w0.heap.size ≤ q
  turn : Turn (fun _ => False) w0 w
  m : MAt w R g us M
  rok : ∀ q, R q → q < w.heap.size ∧ ¬ G q
  gok : g < w.heap.size ∧ ¬ G g
  len : M.length = 12
  mok : ∀ j, j < 12 → (M.getD j []).length = 64 ∧ BytesOk (M.getD j [])
  pg : PagesIn w Rp pv l
  pok : ∀ q, Rp q → q < w.heap.size ∧ ¬ G q
  lfit : fitsB 12 l = true
  lok : ∀ x ∈ l, BytesOk x.2
  llen : l.length ≤ 10
section
variable {w0 w w' : World} {G G' R Rp : Nat → Prop} {g : Nat} {us : List Value} {M : List (List Int)} {pv : Value} {l : List (Int × List Int)}
theorem MS.sub (h : MS w0 w G R Rp g us M pv l) (hs : ∀ q, G' q → G q) : MS w0 w G' R Rp g us M pv l :=
  { h with foot := fun q hq => h.foot q (hs q hq), rok := fun q hq => ⟨(h.rok q hq).1, fun x => (h.rok q hq).2 (hs q x)⟩, gok := ⟨h.gok.1, fun x => h.gok.2 (hs g x)⟩, pok := fun q hq => ⟨(h.pok q hq).1, fun x => (h.pok q hq).2 (hs q x)⟩ }
theorem MS.go (h : MS w0 w G R Rp g us M pv l) (hg : ∀ q, G' q → G q ∨ w.heap.size ≤ q) (T : Turn G w w') : MS w0 w' G' R Rp g us M pv l := by
  have hsz := T.size
  have ho : ∀ q, q < w.heap.size → ¬ G q → ¬ G' q := fun q h1 h2 h3 => by
    rcases hg q h3 with h | h
    · exact h2 h
    · omega
  exact { foot := fun q hq => by
            rcases hg q hq with h1 | h1
            · exact h.foot q h1
            · have := h.turn.size; omega
          turn := h.turn.trans T (fun q hq h1 => by have := h.foot q h1; omega)
          m := h.m.turnG T (fun q hq => (h.rok q hq).2) h.gok.2 h.gok.1
          rok := fun q hq => ⟨Nat.lt_of_lt_of_le (h.rok q hq).1 hsz, ho q (h.rok q hq).1 (h.rok q hq).2⟩
          gok := ⟨Nat.lt_of_lt_of_le h.gok.1 hsz, ho g h.gok.1 h.gok.2⟩
          len := h.len, mok := h.mok
          pg := h.pg.turn T (fun q hq => (h.pok q hq).2)
          pok := fun q hq => ⟨Nat.lt_of_lt_of_le (h.pok q hq).1 hsz, ho q (h.pok q hq).1 (h.pok q hq).2⟩
          lfit := h.lfit, lok := h.lok, llen := h.llen }
theorem MS.step (h : MS w0 w G R Rp g us M pv l) (s : Step w G w' G') : MS w0 w' G' R Rp g us M pv l := h.go s.grown s.turn
theorem MS.turn0 (h : MS w0 w G R Rp g us M pv l) (t : Turn (fun _ => False) w w') : MS w0 w' G R Rp g us M pv l := h.go (fun _ h => .inl h) (t.mono (fun _ _ h => h.elim))
/-- The pages are put aside. -/
theorem MS.none (h : MS w0 w G R Rp g us M pv l) : MS w0 w G R (fun _ => False) g us M (.slice none 0 0) [] :=
  { h with pg := .inl ⟨rfl, rfl⟩, pok := fun _ h => h.elim, lfit := rfl, lok := fun x hx => by simp at hx, llen := by simp }
end
theorem pad64_ok9 {xs : List Int} (h : BytesOk xs) : BytesOk (pad64 xs) := fun x hx => by
  unfold pad64 at hx
  rcases List.mem_append.1 hx with hx | hx
  · exact h x hx
  · rw [List.eq_of_mem_replicate hx]; omega
theorem putM_ok {M : List (List Int)} {l : List (Int × List Int)} (hl : M.length = 12) (hm : ∀ j, j < 12 → (M.getD j []).length = 64 ∧ BytesOk (M.getD j [])) (hf : fitsB 12 l = true) (hb : ∀ x ∈ l, BytesOk x.2) : ∀ j, j < 12 → ((putM M l).getD j []).length = 64 ∧ BytesOk ((putM M l).getD j []) := fun j hj => by
  rw [putM_at M l j (by omega)]
  cases hw : lastW (layW l) (49 + j) with
  | none => exact hm j hj
  | some y =>
    have := lastW_mem hw
    simp only [layW, List.mem_map] at this
    obtain ⟨x, hx, e⟩ := this
    have e2 : pad64 x.2 = y := congrArg Prod.snd e
    show y.length = 64 ∧ BytesOk y
    rw [← e2]
    exact ⟨pad64_len _ (fits_all hf x hx).2, pad64_ok9 (hb x hx)⟩
/-- The pages are put into the list. -/
theorem put_ms (w0 w : World) (G R Rp : Nat → Prop) (g c : Nat) (us : List Value) (M : List (List Int)) (pv : Value) (l : List (Int × List Int)) (h : MS w0 w G R Rp g us M pv l) (hG : ∀ q, G q → q < w.heap.size) :
    Calls Try.prog 14 #[.slice (some ⟨g, 0, none⟩) 12 c, pv] w (fun e w' => ∃ g' c' us' R', e = .returned (.slice (some ⟨g', 0, none⟩) 12 c') ∧ MS w0 w' G R' Rp g' us' (putM M l) pv l ∧ Turn (fun _ => False) w w') := by
  have hfin : ∀ (e : Ending) (w' : World), (∃ go co us', e = .returned (.slice (some ⟨go, 0, none⟩) 12 co) ∧ w.heap.size ≤ go ∧ go < w'.heap.size ∧ MAt w' (fun q => R q ∨ (w.heap.size ≤ q ∧ q ≠ go)) go us' (putR M l l.length) ∧ Turn (fun _ => False) w w') → (∃ g' c' us' R', e = .returned (.slice (some ⟨g', 0, none⟩) 12 c') ∧ MS w0 w' G R' Rp g' us' (putM M l) pv l ∧ Turn (fun _ => False) w w') := by
    rintro e w' ⟨go, co, us', rfl, hgo, hgo2, hma, T⟩
    rw [putR_putM M l (by rw [h.len]; exact h.lfit)] at hma
    have ht := h.turn0 T
    refine ⟨go, co, us', _, rfl, { ht with m := hma.low, rok := fun q hq => ⟨hq.2, fun hq2 => ?_⟩, gok := ⟨hgo2, fun x => by have := hG go x; omega⟩, len := by rw [putM_len]; exact h.len, mok := putM_ok h.len h.mok h.lfit h.lok }, T⟩
    rcases hq.1 with h1 | h1
    · exact (h.rok q h1).2 hq2
    · have := hG q hq2; omega
  have hlow : ∀ q, R q → q < w.heap.size := fun q hq => (h.rok q hq).1
  rcases h.pg with ⟨rfl, rfl⟩ | ⟨gl, cl, rfl, hc, hgl, hgl2, hpp⟩
  · refine (put_nil w R g 12 c us M h.m h.len (by omega) hlow).mono ?_
    rintro e w' ⟨go, co, us', e1, e2, e3, e4, e5⟩
    exact hfin e w' ⟨go, co, us', e1, e2, e3, e4, e5⟩
  · refine (put_any w R Rp g 12 c l.length cl gl us M l h.m h.len (by omega) hlow (fun i hi => hpp i _ (by simp [List.getD, hi])) rfl (by have := h.llen; omega) (fun i hi => ?_) hgl2).mono ?_
    · have := fits_all h.lfit (l.getD i (0, [])) (by simp [List.getD, hi])
      exact ⟨this.1.1, by have := this.1.2; omega, this.2⟩
    · rintro e w' ⟨go, co, us', e1, e2, e3, e4⟩
      refine hfin e w' ⟨go, co, us', e1, e2, ?_, e3, e4⟩
      have := e3.2.1 0 (by rw [putR_len, h.len]; omega)
      exact World.block_lt_of_cell? w' _ this
end Go.Proofs.Ytakmkkgpkbpbkaa
