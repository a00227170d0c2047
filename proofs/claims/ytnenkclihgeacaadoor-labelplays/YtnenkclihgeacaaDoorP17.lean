/- Own texts, packed: Lb, Mk, Gt, Mv, Td, Ad, Op, Rb, Dl. -/
import Derived.Test.YtnenkclihgeacaaDoorP15
import Derived.Test.YtnenkclihgeacaaDoorP16
/- Own contracts: a table with its journal. No statement is proved here. -/
namespace Go.Proofs.YtnenkclihgeacaaDoor
set_option maxRecDepth 100000
open Go.RowKit
set_option linter.unusedVariables false
set_option linter.unusedSimpArgs false

/-- A write, which may stop if the disk is armed. -/
theorem write_h3 (w : World) (F R : Nat → Prop) (J D : Nat) (d : DiskM) (L : Nat) (C : List (List Int)) (n : Nat) (v : Value) (l : List (Int × List Int)) (h : JC w F J D d L C (n + 200))
    (hp : PagesIn w R v l) (hR : ∀ k, R k → k < w.heap.size ∧ ¬ F k ∧ k ≠ J) (hb : ∀ x ∈ l, BytesOk x.2) (hl : l.length ≤ 24) (hfit : fitsB C.length l = true) :
    Calls Tryd.prog 59 #[.pointer (some ⟨J, 0, none⟩), v] w fun e w' => ∃ r F' d' L', e = .returned (.int .i64 r) ∧ StepJ w F J w' F' ∧ L' ≤ L + 1 ∧ ((r = 0 ∧ JC w' F' J D d' L' (putM C l) n ∧ d'.armed = d.armed) ∨ (r = 9 ∧ d.armed = true ∧ JH w' F' J D d' L' ∧ Room n d' ∧ ∀ ms, Calm (d'.crashed ms) L' C ∨ Calm (d'.crashed ms) L' (putM C l))) := by
  have hlen := h.calm.calm.len
  have hlim := h.lim
  refine (jwrite_any w F R J D d L v l h.jh hp hR hb (by omega) (h.room.less (by omega)) (by omega)).mono ?_
  rintro e w' ⟨rfl, F', hj, hs⟩
  have hfit' : fitsB (d.safe.length - 49) l = true := by rw [hlen, show 49 + C.length - 49 = C.length by omega]; exact hfit
  have hroom := jwrite_room (L := L) (l := l) h.room
  by_cases h0 : l.length = 0
  · have hm : jwriteM d L l = ((d, 0), L) := by unfold jwriteM; rw [if_neg (by omega), if_pos hfit', if_pos h0]
    obtain rfl : l = [] := List.eq_nil_of_length_eq_zero h0
    rw [hm] at hj hroom ⊢
    exact ⟨0, F', d, L, rfl, hs, by omega, .inl ⟨rfl, ⟨hj, by rw [putM_nil]; exact h.calm, by rw [putM_nil]; exact h.set, hroom, by rw [putM_nil]; exact h.small, by omega⟩, rfl⟩⟩
  · have hm : jwriteM d L l = (DiskM.run (txA ((L + 1 : Nat) : Int) l) d, L + 1) := by unfold jwriteM; rw [if_neg (by omega), if_pos hfit', if_neg h0]
    rw [hm] at hj hroom ⊢
    rcases write_run h.calm h.set h.small.1 h.small.2 hl hfit (by omega) with ⟨r1, r2, r3, r4⟩ | ⟨r0, r1, r2, r3⟩
    · exact ⟨_, F', _, _, rfl, hs, Nat.le_refl _, .inl ⟨r1, ⟨hj, r2, r3, hroom, by rw [putM_len]; exact h.small, by omega⟩, r4⟩⟩
    · exact ⟨_, F', _, _, rfl, hs, Nat.le_refl _, .inr ⟨r1, by simpa using r0, hj, hroom, r3⟩⟩
/-- What is a table's. -/
def Mn (F : Nat → Prop) (J T : Nat) (k : Nat) : Prop := F k ∨ k = J ∨ k = T
/-- A table with its journal, and the package's table of sums. -/
structure LB (w : World) (B : Nat) (F : Nat → Prop) (T J D : Nat) (d : DiskM) (L : Nat) (C : List (List Int)) (n : Nat) (rs : List Rf) : Prop where
  tb : TbAt w T J rs
  jc : JC w F J D d L C n
  len : 60 < C.length ∧ C.length ≤ 1000
  tab : Tab w
  b2 : 2 ≤ B
  bM : ∀ k, Mn F J T k → B ≤ k
  nFT : ¬ F T
  nTJ : T ≠ J
/-- One whose disk has stopped in the midst of a write. -/
structure Off (w : World) (B : Nat) (F : Nat → Prop) (T J D : Nat) (d : DiskM) (L : Nat) (C C' : List (List Int)) (n : Nat) (rs : List Rf) : Prop where
  tb : TbAt w T J rs
  jh : JH w F J D d L
  room : Room n d
  left : ∀ ms, Calm (d.crashed ms) L C ∨ Calm (d.crashed ms) L C'
  len : 60 < C.length ∧ C.length ≤ 1000
  len' : C'.length = C.length
  tab : Tab w
  b2 : 2 ≤ B
  bM : ∀ k, Mn F J T k → B ≤ k
  nFT : ¬ F T
  nTJ : T ≠ J
  lim : L + n < 4294967296
theorem tab_turn {w w' : World} {G : Nat → Prop} (h : Tab w) (t : Turn G w w') (hG : ¬ G 1) : Tab w' :=
  ⟨Nat.lt_of_lt_of_le h.1 t.size, fun i hi => (t.cell (p := ⟨1, i, none⟩) h.1 hG).trans (h.2 i hi)⟩
section
variable {w w' : World} {B : Nat} {F : Nat → Prop} {T J D : Nat} {d : DiskM} {L : Nat} {C : List (List Int)} {n : Nat} {rs : List Rf}
theorem LB.lt (h : LB w B F T J D d L C n rs) (k : Nat) (hk : Mn F J T k) : k < w.heap.size := by
  rcases hk with hk | rfl | rfl
  · exact h.jc.jh.dh.2 k hk
  · exact h.jc.jh.jat.lt
  · exact h.tb.lt
theorem LB.turn {G : Nat → Prop} (h : LB w B F T J D d L C n rs) (t : Turn G w w') (hG : ∀ k, Mn F J T k → ¬ G k) (h1 : ¬ G 1) : LB w' B F T J D d L C n rs :=
  { h with tb := h.tb.turn t (hG T (.inr (.inr rfl))), jc := h.jc.turn t (fun k hk => hG k (.inl hk)) (hG J (.inr (.inl rfl))), tab := tab_turn h.tab t h1 }
theorem LB.turn0 (h : LB w B F T J D d L C n rs) (t : Turn (fun _ => False) w w') : LB w' B F T J D d L C n rs := h.turn t (fun _ _ => id) id
end
def LyPost (w : World) (B : Nat) (F : Nat → Prop) (T J D : Nat) (d : DiskM) (L : Nat) (C : List (List Int)) (n : Nat) (rs : List Rf) (i : Nat) (o : Rf) (xs : List Int) (e : Ending) (w' : World) : Prop :=
  ∃ r F' d' L', e = .returned (.int .i64 r) ∧ Step w (Mn F J T) w' (Mn F' J T) ∧ L' ≤ L + 1 ∧
    ((r = 0 ∧ LB w' B F' T J D d' L' (putM C [(((48 + i : Nat) : Int), xs)]) n (rs.set i o) ∧ d'.armed = d.armed) ∨
     (r = 9 ∧ Off w' B F' T J D d' L' C (putM C [(((48 + i : Nat) : Int), xs)]) n rs ∧ d.armed = true))
set_option maxHeartbeats 1000000 in
theorem llay_any (w : World) (B : Nat) (F : Nat → Prop) (T J D : Nat) (d : DiskM) (L : Nat) (C : List (List Int)) (n : Nat) (rs : List Rf) (i : Nat) (o : Rf) (v : Value) (xs : List Int) (h : LB w B F T J D d L C (n + 200) rs) (hi : i < 12) (ho : o.Ok) (hv : Src w v xs)
    (hown : 0 < xs.length → ∀ k, v.ownBlock = some k → ¬ Mn F J T k) (hx : BytesOk xs) (hl : xs.length ≤ 64) :
    Calls Tryd.prog 32 #[.pointer (some ⟨T, 0, none⟩), .int .i64 (i : Int), .agg o.vals.toArray, v] w (LyPost w B F T J D d L C n rs i o xs) := by
  refine (lay_core w T J rs i o v xs (fun k => F k ∨ k = J) (fun r w' => ∃ F' d' L', (∀ k, F' k → F k ∨ w.heap.size ≤ k) ∧ L' ≤ L + 1 ∧ ((r = 0 ∧ JC w' F' J D d' L' (putM C [(((48 + i : Nat) : Int), xs)]) n ∧ d'.armed = d.armed) ∨ (r = 9 ∧ d.armed = true ∧ JH w' F' J D d' L' ∧ Room n d' ∧ ∀ ms, Calm (d'.crashed ms) L' C ∨ Calm (d'.crashed ms) L' (putM C [(((48 + i : Nat) : Int), xs)]))))
    h.tb hi ho hv (fun k hk => ⟨h.lt k (by rcases hk with hk | hk; exact .inl hk; exact .inr (.inl hk)), fun e => by
      subst e
      rcases hk with hk | hk
      · exact h.nFT hk
      · exact h.nTJ hk⟩) (fun w2 pv R t2 hp hR => ?_)).mono ?_
  · have hlt := h.lt
    refine (write_h3 w2 F R J D d L C n pv _ (h.turn0 t2).jc hp (fun k hk => ⟨(hR k hk).1, ?_, ?_⟩) (fun x hx' => by simp at hx'; subst hx'; exact hx) (by simp) ?_).mono ?_
    · intro hF
      rcases (hR k hk).2 with h1 | ⟨h1, h2⟩
      · have := hlt k (.inl hF); omega
      · exact hown h1 k h2 (.inl hF)
    · intro e
      rcases (hR k hk).2 with h1 | ⟨h1, h2⟩
      · have := hlt k (.inr (.inl e)); omega
      · exact hown h1 k h2 (.inr (.inl e))
    · have := h.len.1
      unfold fitsB
      simp [hl]
      omega
    · rintro e w' ⟨r, F', d', L', rfl, hs, hL, hh⟩
      refine ⟨r, rfl, ⟨F', d', L', fun k hk => ?_, hL, hh⟩, hs.turn⟩
      rcases hs.grown k hk with h1 | h1
      · exact .inl h1
      · exact .inr (Nat.le_trans t2.size h1)
  · rintro e w' ⟨r, wq, rfl, ⟨F', d', L', hgr, hL, hh⟩, tq, htb, hr⟩
    have hBw : B ≤ w.heap.size := Nat.le_trans (h.bM T (.inr (.inr rfl))) (Nat.le_of_lt h.tb.lt)
    have hTl := h.tb.lt
    have hb2 := h.b2
    have hnT : ¬ F' T := fun hF => by
      rcases hgr T hF with h1 | h1
      · exact h.nFT h1
      · omega
    have hbM' : ∀ k, Mn F' J T k → B ≤ k := fun k hk => by
      rcases hk with hk | hk
      · rcases hgr k hk with h1 | h1
        · exact h.bM k (.inl h1)
        · omega
      · exact h.bM k (.inr hk)
    have hg2 : ∀ k, Mn F' J T k → Mn F J T k ∨ w.heap.size ≤ k := fun k hk => by
      rcases hk with hk | hk
      · rcases hgr k hk with h1 | h1
        · exact .inl (.inl h1)
        · exact .inr h1
      · exact .inl (.inr hk)
    have htab : Tab wq := tab_turn h.tab tq (fun e => by
      rcases e with e | e
      · have := h.bM 1 (.inl e); omega
      · have := h.bM 1 (.inr (.inl e)); omega)
    have tq2 : Turn (Mn F J T) w wq := tq.mono (fun k _ hk => by rcases hk with hk | hk; exact .inl hk; exact .inr (.inl hk))
    rcases hh with ⟨rfl, hjc, harm⟩ | ⟨rfl, harm, hjh, hroom, hleft⟩
    · rcases hr with ⟨_, rfl⟩ | ⟨h9, _⟩
      · have t3 : Turn (fun k => k = T) wq (wq.drew.setCells T (1 + i * 34) o.vals) := (Turn.refl (fun k => k = T) wq).drew.trans (turn_setCells T o.vals (1 + i * 34) wq.drew) (fun _ _ h => h)
        refine ⟨0, F', d', L', rfl, ⟨hg2, tq2.trans t3 (fun k _ e => .inr (.inr e))⟩, hL, .inl ⟨rfl, ⟨?_, hjc.turn t3 (fun k hk e => hnT (e ▸ hk)) (fun e => h.nTJ e.symm), by rw [putM_len]; exact h.len, tab_turn htab t3 (fun e => by have := h.bM T (.inr (.inr rfl)); omega), h.b2, hbM', hnT, h.nTJ⟩, harm⟩⟩
        have hd : TbAt wq.drew T J rs := htb.turn (Turn.refl (fun _ => False) wq).drew id
        exact hd.set i hi o ho
      · exact absurd rfl h9
    · rcases hr with ⟨h9, _⟩ | ⟨_, rfl⟩
      · exact absurd h9 (by decide)
      · have hl2 := h.jc.lim
        exact ⟨9, F', d', L', rfl, ⟨hg2, tq2⟩, hL, .inr ⟨rfl, ⟨htb, hjh, hroom, hleft, h.len, putM_len _ _, htab, h.b2, hbM', hnT, h.nTJ, by omega⟩, harm⟩⟩
end Go.Proofs.YtnenkclihgeacaaDoor
/- Own contracts: a ref is made. No statement is proved here. -/
namespace Go.Proofs.YtnenkclihgeacaaDoor
set_option maxRecDepth 100000
open Go.RowKit
set_option linter.unusedVariables false
set_option linter.unusedSimpArgs false

theorem exec_build37 (ev : Operand → Value) (op : Oper) (ho : op.op = .build 37 #[]) (w : World) : (execOp ev op).run Tryd.prog w = .ok (.value (.agg z37.toArray)) w := by
  unfold execOp
  simp only [ho, List.map_toArray, List.map_nil, Sem.run_bind, Sem.run_pure, build37, Result.andThen_ok]
theorem FdPost.fn {w w' : World} {rs : List Rf} {p : Rf → Bool} {e : Ending} (h : FdPost w rs p e w') : Turn (fun _ => False) w w' ∧ ((∃ k, rs.findIdx? p = some k ∧ k < rs.length ∧ p (rs.getD k rf0) = true ∧ e = .returned (.int .i64 (k : Int))) ∨ (rs.findIdx? p = none ∧ e = .returned (.int .i64 (-1)))) := by
  obtain ⟨t, ⟨k, hk, h1, h2, rfl⟩ | ⟨h1, rfl⟩⟩ := h
  · have hg : ∀ j, (hj : j < rs.length) → rs.getD j rf0 = rs[j] := fun j hj => by simp [List.getD, hj]
    refine ⟨t, .inl ⟨k, ?_, hk, h1, rfl⟩⟩
    rw [List.findIdx?_eq_some_iff_getElem]
    refine ⟨hk, by rw [← hg k hk]; exact h1, fun j hj => ?_⟩
    rw [← hg j (by omega), h2 j hj]
    simp
  · refine ⟨t, .inr ⟨?_, rfl⟩⟩
    rw [List.findIdx?_eq_none_iff]
    intro x hx
    obtain ⟨j, hj, rfl⟩ := List.getElem_of_mem hx
    have := h1 j hj
    rwa [show rs.getD j rf0 = rs[j] by simp [List.getD, hj]] at this
def nmB (s : ByteArray) (o : Rf) : Bool := decide (o.name = s)
def frB (o : Rf) : Bool := decide (o = rf0)
theorem LyPost.from_ {w w1 w' : World} {B : Nat} {F : Nat → Prop} {T J D : Nat} {d : DiskM} {L : Nat} {C : List (List Int)} {n : Nat} {rs : List Rf} {i : Nat} {o : Rf} {xs : List Int} {e : Ending} (t : Turn (fun _ => False) w w1) (h : LyPost w1 B F T J D d L C n rs i o xs e w') : LyPost w B F T J D d L C n rs i o xs e w' := by
  obtain ⟨r, F', d', L', he, hs, hL, hh⟩ := h
  exact ⟨r, F', d', L', he, (Step.of0 _ t).trans hs, hL, hh⟩
theorem right_ne {s : ByteArray} (h : rightB s = true) : s ≠ ByteArray.empty := fun e => by
  subst e
  exact absurd h (by decide)
theorem right_size {s : ByteArray} (h : rightB s = true) : 1 ≤ s.size ∧ s.size ≤ 12 := by
  unfold rightB at h
  simp only [Bool.and_eq_true, decide_eq_true_eq] at h
  exact h.1
def MkPost (w : World) (B : Nat) (F : Nat → Prop) (T J D : Nat) (d : DiskM) (L : Nat) (C : List (List Int)) (n : Nat) (rs : List Rf) (o : Rf) (e : Ending) (w' : World) : Prop :=
  (rightB o.name = false ∧ e = .returned (.int .i64 1) ∧ Turn (fun _ => False) w w') ∨
  (rightB o.name = true ∧ rs.findIdx? (nmB o.name) ≠ none ∧ e = .returned (.int .i64 3) ∧ Turn (fun _ => False) w w') ∨
  (rightB o.name = true ∧ rs.findIdx? (nmB o.name) = none ∧ rs.findIdx? frB = none ∧ e = .returned (.int .i64 4) ∧ Turn (fun _ => False) w w') ∨
  (rightB o.name = true ∧ rs.findIdx? (nmB o.name) = none ∧ ∃ i, rs.findIdx? frB = some i ∧ i < 12 ∧ LyPost w B F T J D d L C n rs i o (sealB (refB o)) e w')
set_option maxHeartbeats 8000000 in
theorem make_any (w : World) (B : Nat) (F : Nat → Prop) (T J D : Nat) (d : DiskM) (L : Nat) (C : List (List Int)) (n : Nat) (rs : List Rf) (o : Rf) (h : LB w B F T J D d L C (n + 200) rs) (ho : o.Ok) :
    Calls Tryd.prog 19 #[.pointer (some ⟨T, 0, none⟩), .agg o.vals.toArray] w (MkPost w B F T J D d L C n rs o) := by
  have hb := box_alloc w 37 o.vals
  obtain ⟨w1, hw1⟩ : ∃ w1, w.alloc (.cells o.vals.toArray 37) = w1 := ⟨_, rfl⟩
  rw [hw1] at hb
  have c1 := hb.cell 0 _ o.v0
  have HB := Lib.hid hb
  have HLB := Lib.hid h
  have HOK := Lib.hid ho
  clear hb h ho
  go_enter Tryd.func19, Tryd.ntmps19
  go_wp2_with fail
  clear hw1
  refine (right_any o.name w1).mono ?_
  rintro e w2 ⟨rfl, t2⟩
  have HT2 := Lib.hid (HB.out.turn.trans t2 (fun _ _ => id))
  have HT2b := Lib.hid t2
  clear t2
  cases hr : rightB o.name
  · have HR := Lib.hid hr
    clear hr
    go_wp2_with fail
    go_ret
    exact .inl ⟨HR.out, rfl, HT2.out⟩
  · have HR := Lib.hid hr
    clear hr
    have c2 : w2.cell? ⟨w.heap.size, 0, none⟩ = some (.string o.name) := (HT2b.out.cell (p := ⟨w.heap.size, 0, none⟩) (by rw [HB.out.size]; exact Nat.lt_succ_self _) id).trans c1
    clear c1
    go_wp2_with fail
    refine (find_any w2 T J rs o.name (HLB.out.tb.turn HT2.out id) (right_ne HR.out)).mono ?_
    intro e w3 hf3
    obtain ⟨t3, hf⟩ := hf3.fn
    have HT3 := Lib.hid (HT2.out.trans t3 (fun _ _ => id))
    have HT3b := Lib.hid (HT2b.out.trans t3 (fun _ _ => id))
    clear hf3 t3 c2
    rcases hf with ⟨k, hk, hkl, hkp, rfl⟩ | ⟨hk, rfl⟩
    · have HK := Lib.hid hk
      have dk : decide ((0 : Int) ≤ (k : Int)) = true := decide_eq_true (by omega)
      clear hk hkp
      go_wp2_with fail
      go_ret
      exact .inr (.inl ⟨HR.out, (fun h0 => by have h1 := HK.out; rw [show rs.findIdx? (nmB o.name) = some k from h1] at h0; cases h0), rfl, HT3.out⟩)
    · have HK := Lib.hid (show rs.findIdx? (nmB o.name) = none from hk)
      clear hk
      have hzz := build37
      go_wp2_with (with_reducible (show wpList _ _ _ (Oper.mk (some 24) (.build 37 #[]) _ _ _ _ :: _) _ _); refine still ?_)
      refine list_exec rfl (.agg z37.toArray) _ (exec_build37 _ _ rfl _) ?_
      clear hzz
      go_wp2_with fail
      refine (index_any w3 T J rs (HLB.out.tb.turn HT3.out id)).mono ?_
      intro e w4 hf4
      obtain ⟨t4, hf⟩ := hf4.fn
      have HT4 := Lib.hid (HT3.out.trans t4 (fun _ _ => id))
      have HT4b := Lib.hid (HT3b.out.trans t4 (fun _ _ => id))
      clear hf4 t4
      rcases hf with ⟨i, hi, hil, hip, rfl⟩ | ⟨hi, rfl⟩
      · have HI := Lib.hid (show rs.findIdx? frB = some i from hi)
        have hi12 : i < 12 := by rw [← HLB.out.tb.len]; exact hil
        have dk : decide ((i : Int) < 0) = false := decide_eq_false (by omega)
        have HSZ := Lib.hid (right_size HR.out).2
        have HTt := HT4
        have HBX := Lib.hid (Nat.le_refl w.heap.size)
        have hrx : w4.rangeAt w.heap.size 0 o.vals := rangeAt_turn HB.out.range HT4b.out id
        have HRX := Lib.hid hrx
        clear hi hil hip hrx
        go_wp2_with fail
        have hlB := HLB.out.turn0 HTt.out
        refine wp_region_held_drew (S := fun wq => True ∧ wq.rangeAt w.heap.size 0 o.vals) (by kernel_rfl) ⟨trivial, HRX.out⟩ (fun hHeld => ?_)
        refine wpAnyH_take (i := 0) (v := .pointer (some ⟨T, 0, none⟩)) rfl (by kernel_rfl) (by kernel_rfl) (by kernel_rfl) (fun _ _ _ h => h) (Or.inl ⟨by rfl, ?yq1⟩) (by assumption) ?rq1
        case yq1 => (intro wq hSw; (try simp only [List.getElem_toArray, List.getElem_cons_zero, List.getElem_cons_succ]); go_simp; (try with_reducible rfl); all_goals (try omega))
        case rq1 =>
        try simp only [Act.put, List.setIfInBounds_toArray, List.set_cons_zero, List.set_cons_succ, List.getElem_toArray, List.getElem_cons_zero, List.getElem_cons_succ]
        refine wpAnyH_take (i := 1) (v := .int .i64 (i : Int)) rfl (by kernel_rfl) (by kernel_rfl) (by kernel_rfl) (fun _ _ _ h => h) (Or.inl ⟨by rfl, ?yq2⟩) (by assumption) ?rq2
        case yq2 => (intro wq hSw; (try simp only [List.getElem_toArray, List.getElem_cons_zero, List.getElem_cons_succ]); go_simp; (try with_reducible rfl); all_goals (try omega))
        case rq2 =>
        try simp only [Act.put, List.setIfInBounds_toArray, List.set_cons_zero, List.set_cons_succ, List.getElem_toArray, List.getElem_cons_zero, List.getElem_cons_succ]
        refine wpAnyH_take (i := 2) (v := .agg o.vals.toArray) rfl (by kernel_rfl) (by kernel_rfl) (by kernel_rfl) (fun _ _ _ h => h) (Or.inl ⟨by rfl, ?yq3⟩) (by assumption) ?rq3
        case yq3 => (intro wq hSw; exact exec_load_mid _ _ 37 _ rfl w.heap.size 0 rfl o.vals _ _ hSw.2 Tryd.underlying37 rfl (by rw [HOK.out.vlen]; exact info37))
        case rq3 =>
        try simp only [Act.put, List.setIfInBounds_toArray, List.set_cons_zero, List.set_cons_succ, List.getElem_toArray, List.getElem_cons_zero, List.getElem_cons_succ]
        refine wpAnyH_take (i := 3) (v := .agg o.vals.toArray) rfl (by kernel_rfl) (by kernel_rfl) (by kernel_rfl) (fun _ _ _ h => h) (Or.inl ⟨by rfl, ?yq4⟩) (by assumption) ?rq4
        case yq4 => (intro wq hSw; exact exec_load_mid _ _ 37 _ rfl w.heap.size 0 rfl o.vals _ _ hSw.2 Tryd.underlying37 rfl (by rw [HOK.out.vlen]; exact info37))
        case rq4 =>
        try simp only [Act.put, List.setIfInBounds_toArray, List.set_cons_zero, List.set_cons_succ, List.getElem_toArray, List.getElem_cons_zero, List.getElem_cons_succ]
        refine wpAnyH_ready (rs := [4]) (by kernel_rfl) (by simp) ?_
        refine AllReadyH.cons rfl (fun K hK => ?_) AllReadyH.nil
        go_simp
        refine (sealed_any o w4.drew HOK.out HSZ.out hlB.tab).mono ?_
        rintro e w7 ⟨Bs, rfl, hbs, hBs, t7⟩
        have HT7 := Lib.hid (show Turn (fun _ => False) w4 w7 from (Turn.refl (fun _ => False) w4).drew.trans t7 (fun _ _ => id))
        have hBl := hbs.lt
        have HBS := Lib.hid hbs
        have HBs := Lib.hid (show w4.heap.size ≤ Bs from hBs)
        clear hbs t7
        refine hK.out _ _ ⟨trivial, rangeAt_turn HRX.out HT7.out id⟩ (fun _ => ?_)
        clear hK K
        try simp only [Act.put, List.setIfInBounds_toArray, List.set_cons_zero, List.set_cons_succ, List.getElem_toArray, List.getElem_cons_zero, List.getElem_cons_succ]
        refine wpAnyH_ready (rs := [5]) (by kernel_rfl) (by simp) ?_
        refine AllReadyH.cons rfl (fun K hK => ?_) AllReadyH.nil
        go_simp
        have hrd : Src w7 (.slice (some ⟨Bs, 0, none⟩) 64 64) (sealB (refB o)) := .inl (.inr ⟨Bs, 0, 64, by rw [sealB_len], by rw [sealB_len]; omega, fun q hq => by rw [Nat.zero_add]; exact HBS.out.cell q hq⟩)
        have hlB7 := hlB.turn0 HT7.out
        have HRD := Lib.hid hrd
        clear hrd
        refine (llay_any w7 B F T J D d L C n rs i o _ _ hlB7 hi12 HOK.out HRD.out (fun _ k hk hm => by
          have hk' : Bs = k := Option.some.inj hk
          have := hlB.lt k hm
          have := HBs.out
          omega) (sealB_ok _ (refB_ok HOK.out HSZ.out)) (by rw [sealB_len]; omega)).mono ?_
        rintro e w8 ⟨r8, F8, d8, L8, rfl, hs8, hL8, hh8⟩
        have hly : LyPost w B F T J D d L C n rs i o (sealB (refB o)) (.returned (.int .i64 r8)) w8 := LyPost.from_ (HTt.out.trans HT7.out (fun _ _ => id)) ⟨r8, F8, d8, L8, rfl, hs8, hL8, hh8⟩
        have HLY := Lib.hid hly
        refine hK.out _ _ ⟨trivial, rangeAt_turn (rangeAt_turn HRX.out HT7.out id) hs8.turn (fun hm => by have := HLB.out.lt _ hm; have := HBX.out; omega)⟩ (fun _ => ?_)
        clear hK K hly hs8 hh8
        try simp only [Act.put, List.setIfInBounds_toArray, List.set_cons_zero, List.set_cons_succ, List.getElem_toArray, List.getElem_cons_zero, List.getElem_cons_succ]
        refine wpAnyH_take (i := 6) (v := .int .i64 r8) rfl (by kernel_rfl) (by kernel_rfl) (by kernel_rfl) (fun _ _ _ h => h) (Or.inl ⟨by rfl, ?yq5⟩) (by assumption) ?rq5
        case yq5 => (intro wq hSw; (try simp only [List.getElem_toArray, List.getElem_cons_zero, List.getElem_cons_succ]); go_simp; (try with_reducible rfl); all_goals (try omega))
        case rq5 =>
        try simp only [Act.put, List.setIfInBounds_toArray, List.set_cons_zero, List.set_cons_succ, List.getElem_toArray, List.getElem_cons_zero, List.getElem_cons_succ]
        refine wpAnyH_done (by kernel_rfl) ?_ _
        clear hHeld
        go_wp2_with fail
        go_ret
        exact .inr (.inr (.inr ⟨HR.out, HK.out, i, HI.out, hi12, HLY.out⟩))
      · have HI := Lib.hid (show rs.findIdx? frB = none from hi)
        clear hi
        go_wp2_with fail
        go_ret
        exact .inr (.inr (.inl ⟨HR.out, HK.out, HI.out, rfl, HT4.out⟩))
end Go.Proofs.YtnenkclihgeacaaDoor
/- Own contracts: a ref is got. No statement is proved here. -/
namespace Go.Proofs.YtnenkclihgeacaaDoor
set_option maxRecDepth 100000
open Go.RowKit
set_option linter.unusedVariables false
set_option linter.unusedSimpArgs false

def GtPost (w : World) (rs : List Rf) (s : ByteArray) (e : Ending) (w' : World) : Prop :=
  Turn (fun _ => False) w w' ∧ ((∃ k, s ≠ ByteArray.empty ∧ rs.findIdx? (nmB s) = some k ∧ k < 12 ∧ e = .returned (.tuple #[.agg (rs.getD k rf0).vals.toArray, .int .i64 0])) ∨ ((s = ByteArray.empty ∨ rs.findIdx? (nmB s) = none) ∧ e = .returned (.tuple #[.agg z37.toArray, .int .i64 2])))
theorem rf_there {w : World} {b : Nat} {o : Rf} (ho : o.Ok) (h : w.heap[b]? = some (.cells o.vals.toArray 37 (0, 0))) : w.there b 0 34 := by
  have := there_row h
  rwa [ho.vlen] at this
/-- A place's ref is found, or none, whatever the name. -/
theorem find_all (w : World) (T J : Nat) (rs : List Rf) (s : ByteArray) (ht : TbAt w T J rs) : Calls Tryd.prog 31 #[.pointer (some ⟨T, 0, none⟩), .string s] w fun e w' => Turn (fun _ => False) w w' ∧ ((∃ k, s ≠ ByteArray.empty ∧ rs.findIdx? (nmB s) = some k ∧ k < 12 ∧ e = .returned (.int .i64 (k : Int))) ∨ ((s = ByteArray.empty ∨ rs.findIdx? (nmB s) = none) ∧ e = .returned (.int .i64 (-1)))) := by
  by_cases hs : s = ByteArray.empty
  · refine (find_none _ w (.inr ⟨T, rfl⟩) s (.inr hs)).mono ?_
    rintro e w' ⟨rfl, t⟩
    exact ⟨t, .inr ⟨.inl hs, rfl⟩⟩
  · refine (find_any w T J rs s ht hs).mono ?_
    intro e w' hf
    obtain ⟨t, ⟨k, hk, hkl, hkp, rfl⟩ | ⟨hk, rfl⟩⟩ := hf.fn
    · exact ⟨t, .inl ⟨k, hs, hk, by rw [← ht.len]; exact hkl, rfl⟩⟩
    · exact ⟨t, .inr ⟨.inr hk, rfl⟩⟩
theorem exec_zero37 (ev : Operand → Value) (op : Oper) (ho : op.op = .alloc 37) (w : World) : (execOp ev op).run Tryd.prog w = .ok (.value (.pointer (some ⟨w.heap.size, 0, none⟩))) (w.alloc (.cells z37.toArray 37)) := by
  unfold execOp
  simp only [ho, Sem.run_bind, zero37, Result.andThen_ok]
  rfl
theorem got_results (w : World) (b : Nat) (x : Rf) (hx : x.Ok) (r : Int) (h2 : w.rangeAt b 0 x.vals) (tmps : Array Value) (e4 : tmps.getD 4 undef = .pointer (some ⟨b, 0, none⟩)) (e5 : tmps.getD 5 undef = .int .i64 r) :
    (results Tryd.f23 tmps).run Tryd.prog w = .ok (.tuple #[.agg x.vals.toArray, .int .i64 r]) w := by
  have hl : (loadVar 37 ⟨b, 0, none⟩).run Tryd.prog w = .ok (.agg x.vals.toArray) w := run_loadVar_mid (P := Tryd.prog) w b 0 37 x.vals _ h2 Tryd.underlying37 rfl (by rw [hx.vlen]; exact info37)
  have hr : Tryd.f23.results = #[.cell 4 37, .tmp 5] := by kernel_rfl
  have e4' : tmps[4]?.getD undef = .pointer (some ⟨b, 0, none⟩) := by simpa using e4
  have e5' : tmps[5]?.getD undef = .int .i64 r := by simpa using e5
  simp [results, hr, e4', e5', asAddr, hl]
set_option maxHeartbeats 4000000 in
theorem get_any (w : World) (T J : Nat) (rs : List Rf) (s : ByteArray) (ht : TbAt w T J rs) : Calls Tryd.prog 23 #[.pointer (some ⟨T, 0, none⟩), .string s] w (GtPost w rs s) := by
  have hb := box_alloc w 37 z37
  have hz := zero37
  obtain ⟨w1, hw1⟩ : ∃ w1, w.alloc (.cells z37.toArray 37) = w1 := ⟨_, rfl⟩
  rw [hw1] at hb
  have HB := Lib.hid hb
  have HT := Lib.hid (ht.turn hb.turn id)
  clear hb ht
  go_enter Tryd.func23, Tryd.ntmps23
  go_wp2_with fail
  clear hw1 hz
  refine (find_all w1 T J rs s HT.out).mono ?_
  rintro e w2 ⟨t2, hf⟩
  have HT2 := Lib.hid t2
  have HT2b := Lib.hid (HB.out.turn.trans t2 (fun _ _ => id))
  have hheap : w2.heap[w.heap.size]? = some (.cells z37.toArray 37 (0, 0)) := (t2.block _ (by rw [HB.out.size]; exact Nat.lt_succ_self _) id).trans HB.out.heap
  have hth : w2.there w.heap.size 0 34 := rf_there rf0_ok hheap
  have HH := Lib.hid hheap
  clear t2 hheap
  rcases hf with ⟨k, hs, hk, hk12, rfl⟩ | ⟨hk, rfl⟩
  · have HK := Lib.hid hk
    have HS := Lib.hid hs
    have hT2 := HT.out.turn HT2.out id
    have hok := hT2.getok k hk12
    have hsl := hT2.slot k hk12
    have dk : decide ((k : Int) < 0) = false := decide_eq_false (by omega)
    have gi : (0 : Int) ≤ (k : Int) ∧ (k : Int) < 12 := by omega
    clear hk hs hT2
    generalize hx : rs.getD k rf0 = x at *
    have HX := Lib.hid hx
    clear hx
    go_wp2_with (with_reducible (show wpList _ _ _ (Oper.mk (some 18) (.load 37 (.tmp 17)) _ _ _ _ :: _) _ _); refine still ?_)
    refine wpList_load_mid rfl 37 (.tmp 17) rfl T (1 + k * 34) rfl x.vals _ hsl Tryd.underlying37 rfl (by rw [hok.vlen]; exact info37) ?_
    go_wp2_with (with_reducible (show wpList _ _ _ (Oper.mk none (.store 37 (.tmp 4) (.tmp 18)) _ _ _ _ :: _) _ _); refine still ?_)
    refine wpList_store_mid rfl 37 (.tmp 4) (.tmp 18) rfl w.heap.size 0 x.vals.toArray rfl rfl (by simpa [hok.vlen] using hth) (info37v hok) (all_oneCell_toArray x.vals_one) ?_
    have tS := turn_setCells w.heap.size x.vals 0 w2
    have hN := heap_setCells w.heap.size 37 x.vals 0 w2 z37 HH.out (by rw [hok.vlen]; exact Nat.le_refl 34)
    have hNv : z37.take 0 ++ x.vals ++ z37.drop (0 + x.vals.length) = x.vals := by rw [hok.vlen]; simp [z37]; exact Nat.le_of_eq rf0_ok.vlen
    rw [hNv] at hN
    rw [show x.vals.toArray.toList = x.vals from rfl]
    generalize w2.setCells w.heap.size 0 x.vals = w3 at *
    have HN := Lib.hid hN
    have HTS := Lib.hid (HT2b.out.trans tS (fun q hq e => by omega))
    clear hN tS hNv hth hsl
    go_wp2_with fail
    refine bodyPost_ret (got_results w3 w.heap.size x hok 0 (fun j v hj => by rw [Nat.zero_add, cell_of_row _ _ j _ 37 (0, 0) HN.out]; simpa using hj) _ rfl rfl) rfl ?_
    exact ⟨HTS.out, .inl ⟨k, HS.out, HK.out, hk12, by rw [HX.out]⟩⟩
  · have HK := Lib.hid hk
    clear hk
    go_wp2_with (with_reducible (show wpList _ _ _ (Oper.mk (some 12) (.build 37 #[]) _ _ _ _ :: _) _ _); refine still ?_)
    refine list_exec rfl (.agg z37.toArray) _ (exec_build37 _ _ rfl _) ?_
    go_wp2_with (with_reducible (show wpList _ _ _ (Oper.mk none (.store 37 (.tmp 4) (.tmp 12)) _ _ _ _ :: _) _ _); refine still ?_)
    refine wpList_store_mid rfl 37 (.tmp 4) (.tmp 12) rfl w.heap.size 0 z37.toArray rfl rfl (by simpa [show z37.length = 34 from rf0_ok.vlen] using hth) (info37v rf0_ok) (all_oneCell_toArray rf0.vals_one) ?_
    have tS := turn_setCells w.heap.size z37 0 w2
    have hN := heap_setCells w.heap.size 37 z37 0 w2 z37 HH.out (by omega)
    have hNv : z37.take 0 ++ z37 ++ z37.drop (0 + z37.length) = z37 := by simp
    rw [hNv] at hN
    rw [show z37.toArray.toList = z37 from rfl]
    generalize w2.setCells w.heap.size 0 z37 = w3 at *
    have HN := Lib.hid hN
    have HTS := Lib.hid (HT2b.out.trans tS (fun q hq e => by omega))
    clear hN tS hNv hth
    go_wp2_with fail
    refine bodyPost_ret (got_results w3 w.heap.size rf0 rf0_ok 2 (fun j v hj => by rw [Nat.zero_add, cell_of_row _ _ j _ 37 (0, 0) HN.out]; simpa [z37] using hj) _ rfl rfl) rfl ?_
    exact ⟨HTS.out, .inr ⟨HK.out, rfl⟩⟩
end Go.Proofs.YtnenkclihgeacaaDoor
/- Own contracts: a ref is moved, and dropped. No statement is proved here. -/
namespace Go.Proofs.YtnenkclihgeacaaDoor
set_option maxRecDepth 100000
open Go.RowKit
set_option linter.unusedVariables false
set_option linter.unusedSimpArgs false

def DpPost (w : World) (B : Nat) (F : Nat → Prop) (T J D : Nat) (d : DiskM) (L : Nat) (C : List (List Int)) (n : Nat) (rs : List Rf) (s : ByteArray) (e : Ending) (w' : World) : Prop :=
  ((s = ByteArray.empty ∨ rs.findIdx? (nmB s) = none) ∧ e = .returned (.int .i64 2) ∧ Turn (fun _ => False) w w') ∨
  (s ≠ ByteArray.empty ∧ ∃ i, rs.findIdx? (nmB s) = some i ∧ i < 12 ∧ LyPost w B F T J D d L C n rs i rf0 [] e w')
set_option maxHeartbeats 4000000 in
theorem drop_any (w : World) (B : Nat) (F : Nat → Prop) (T J D : Nat) (d : DiskM) (L : Nat) (C : List (List Int)) (n : Nat) (rs : List Rf) (s : ByteArray) (h : LB w B F T J D d L C (n + 200) rs) :
    Calls Tryd.prog 15 #[.pointer (some ⟨T, 0, none⟩), .string s] w (DpPost w B F T J D d L C n rs s) := by
  have HLB := Lib.hid h
  clear h
  go_enter Tryd.func15, Tryd.ntmps15
  go_wp2_with fail
  refine (find_all w T J rs s HLB.out.tb).mono ?_
  rintro e w2 ⟨t2, hf⟩
  have HT2 := Lib.hid t2
  clear t2
  rcases hf with ⟨k, hs, hk, hk12, rfl⟩ | ⟨hk, rfl⟩
  · have HK := Lib.hid hk
    have HS := Lib.hid hs
    have dk : decide ((k : Int) < 0) = false := decide_eq_false (by omega)
    clear hk hs
    go_wp2_with (with_reducible (show wpList _ _ _ (Oper.mk (some 13) (.build 37 #[]) _ _ _ _ :: _) _ _); refine still ?_)
    refine list_exec rfl (.agg z37.toArray) _ (exec_build37 _ _ rfl _) ?_
    go_wp2_with fail
    refine (llay_any w2 B F T J D d L C n rs k rf0 (.slice none 0 0) [] (HLB.out.turn0 HT2.out) hk12 rf0_ok (.inl (.inl ⟨rfl, rfl⟩)) (fun h0 => absurd h0 (by simp)) (fun x hx => by simp at hx) (by simp)).mono ?_
    rintro e w8 ⟨r8, F8, d8, L8, rfl, hs8, hL8, hh8⟩
    have HLY := Lib.hid (LyPost.from_ HT2.out ⟨r8, F8, d8, L8, rfl, hs8, hL8, hh8⟩)
    clear hs8 hh8
    go_wp2_with fail
    go_ret
    exact .inr ⟨HS.out, k, HK.out, hk12, HLY.out⟩
  · have HK := Lib.hid hk
    clear hk
    go_wp2_with fail
    go_ret
    exact .inl ⟨HK.out, rfl, HT2.out⟩
def keyV (ks : List Int) : List Value := ks.map (Value.int .u8)
theorem keyV_one (ks : List Int) : ∀ v ∈ keyV ks, v.oneCell' = true := fun v hv => by
  simp only [keyV, List.mem_map] at hv
  obtain ⟨x, _, rfl⟩ := hv
  rfl
def Rf.at (o : Rf) (ks : List Int) : Rf := { o with key := ks }
def MvPost (w : World) (B : Nat) (F : Nat → Prop) (T J D : Nat) (d : DiskM) (L : Nat) (C : List (List Int)) (n : Nat) (rs : List Rf) (s : ByteArray) (ks : List Int) (e : Ending) (w' : World) : Prop :=
  ((s = ByteArray.empty ∨ rs.findIdx? (nmB s) = none) ∧ e = .returned (.int .i64 2) ∧ Turn (fun _ => False) w w') ∨
  (s ≠ ByteArray.empty ∧ ∃ i, rs.findIdx? (nmB s) = some i ∧ i < 12 ∧ (rs.getD i rf0).fast = true ∧ e = .returned (.int .i64 13) ∧ Turn (fun _ => False) w w') ∨
  (s ≠ ByteArray.empty ∧ ∃ i, rs.findIdx? (nmB s) = some i ∧ i < 12 ∧ (rs.getD i rf0).fast = false ∧ LyPost w B F T J D d L C n rs i ((rs.getD i rf0).at ks) (sealB (refB ((rs.getD i rf0).at ks))) e w')
set_option maxHeartbeats 8000000 in
theorem move_any (w : World) (B : Nat) (F : Nat → Prop) (T J D : Nat) (d : DiskM) (L : Nat) (C : List (List Int)) (n : Nat) (rs : List Rf) (s : ByteArray) (ks : List Int) (h : LB w B F T J D d L C (n + 200) rs) (hN : ∀ x ∈ rs, x.name.size ≤ 12) (hkl : ks.length = 32) (hkb : BytesOk ks) :
    Calls Tryd.prog 14 #[.pointer (some ⟨T, 0, none⟩), .string s, .agg (keyV ks).toArray] w (MvPost w B F T J D d L C n rs s ks) := by
  have hb := box_alloc w 35 (keyV ks)
  obtain ⟨w1, hw1⟩ : ∃ w1, w.alloc (.cells (keyV ks).toArray 35) = w1 := ⟨_, rfl⟩
  rw [hw1] at hb
  have HB := Lib.hid hb
  have HLB := Lib.hid h
  have HNN := Lib.hid hN
  clear hb h hN
  go_enter Tryd.func14, Tryd.ntmps14
  go_wp2_with fail
  clear hw1
  refine (find_all w1 T J rs s (HLB.out.tb.turn HB.out.turn id)).mono ?_
  rintro e w2 ⟨t2, hf⟩
  have HT2 := Lib.hid (HB.out.turn.trans t2 (fun _ _ => id))
  have HKB := Lib.hid (show w2.rangeAt w.heap.size 0 (keyV ks) from rangeAt_turn HB.out.range t2 id)
  have HSz := Lib.hid (show w.heap.size < w2.heap.size by have := t2.size; have := HB.out.size; omega)
  clear t2
  rcases hf with ⟨i, hs, hk, hi12, rfl⟩ | ⟨hk, rfl⟩
  · have HK := Lib.hid hk
    have HS := Lib.hid hs
    have hT2 := HLB.out.tb.turn HT2.out id
    have hok := hT2.getok i hi12
    have hsl := hT2.slot i hi12
    have hsz : (rs.getD i rf0).name.size ≤ 12 := HNN.out _ (by
      rw [show rs.getD i rf0 = rs[i]'(by rw [HLB.out.tb.len]; exact hi12) by simp [List.getD, HLB.out.tb.len, hi12]]
      exact List.getElem_mem _)
    have dk : decide ((i : Int) < 0) = false := decide_eq_false (by omega)
    have gi : (0 : Int) ≤ (i : Int) ∧ (i : Int) < 12 := by omega
    have hz := zero37
    clear hk hs hT2
    generalize hx : rs.getD i rf0 = x at *
    have HX := Lib.hid hx
    clear hx
    go_wp2_with (with_reducible (show wpList _ _ _ (Oper.mk (some 19) (.load 37 (.tmp 18)) _ _ _ _ :: _) _ _); refine still ?_)
    refine wpList_load_mid rfl 37 (.tmp 18) rfl T (1 + i * 34) rfl x.vals _ hsl Tryd.underlying37 rfl (by rw [hok.vlen]; exact info37) ?_
    go_wp2_with (with_reducible (show wpList _ _ _ (Oper.mk none (.store 37 (.tmp 8) (.tmp 19)) _ _ _ _ :: _) _ _); refine still ?_)
    refine list_box w2 37 z37 x.vals (by rw [hok.vlen]; exact rf0_ok.vlen) x.vals_one (by rw [hok.vlen]; exact info37) rfl (.tmp 8) (.tmp 19) rfl rfl rfl (fun w3 hb3 => ?_)
    have HB3 := Lib.hid hb3
    have HT3 := Lib.hid (HT2.out.trans hb3.turn (fun _ _ => id))
    have c33 : w3.cell? ⟨w2.heap.size, 33, none⟩ = some (.bool x.fast) := hb3.cell 33 _ (x.v33 hok)
    clear hb3 hz hsl
    cases hfast : x.fast
    · rw [hfast] at c33
      have HF := Lib.hid hfast
      have HOKx := Lib.hid hok
      clear hfast hok
      go_wp2_with (with_reducible (show wpList _ _ _ (Oper.mk (some 22) (.load 35 (.tmp 5)) _ _ _ _ :: _) _ _); refine still ?_)
      refine wpList_load_mid rfl 35 (.tmp 5) rfl w.heap.size 0 rfl (keyV ks) _ (rangeAt_turn HKB.out HB3.out.turn id) Tryd.underlying35 rfl (by simp [keyV, hkl, info35]) ?_
      go_wp2_with (with_reducible (show wpList _ _ _ (Oper.mk none (.store 35 (.tmp 23) (.tmp 22)) _ _ _ _ :: _) _ _); refine still ?_)
      refine wpList_store_mid rfl 35 (.tmp 23) (.tmp 22) rfl w2.heap.size 1 (keyV ks).toArray rfl rfl (fun j hj => by
        have h0 := there_row HB3.out.heap (1 + j) (by have := HOKx.out.vlen; simp [keyV, hkl] at hj; omega)
        rwa [Nat.zero_add] at h0) (by simp [keyV, hkl, info35]) (all_oneCell_toArray (keyV_one ks)) ?_
      have tS := turn_setCells w2.heap.size (keyV ks) 1 w3
      have hNh := heap_setCells w2.heap.size 37 (keyV ks) 1 w3 x.vals HB3.out.heap (by rw [HOKx.out.vlen]; simp [keyV, hkl])
      have hNv : x.vals.take 1 ++ keyV ks ++ x.vals.drop (1 + (keyV ks).length) = (x.at ks).vals := by
        have : (x.key.map (Value.int .u8) ++ [Value.bool x.fast]).drop 32 = [Value.bool x.fast] := by rw [List.drop_append, List.drop_of_length_le (by simp [HOKx.out.len])]; simp [HOKx.out.len]
        simp only [Rf.vals, Rf.at, keyV, List.length_map, hkl, List.take_succ_cons, List.take_zero, Nat.add_comm 1 32, List.drop_succ_cons, this]
        simp
      rw [hNv] at hNh
      rw [show (keyV ks).toArray.toList = keyV ks from rfl]
      generalize w3.setCells w2.heap.size 1 (keyV ks) = w4 at *
      have hoN : (x.at ks).Ok := ⟨hkl, hkb⟩
      have HOK := Lib.hid hoN
      have HSZ := Lib.hid (show (x.at ks).name.size ≤ 12 from hsz)
      have HTt := Lib.hid (HT3.out.trans tS (fun q hq e => by have := HSz.out; omega))
      have hrx : w4.rangeAt w2.heap.size 0 (x.at ks).vals := fun j v hj => by rw [Nat.zero_add, cell_of_row _ _ j _ 37 (0, 0) hNh]; simpa using hj
      have HRX := Lib.hid hrx
      have HBX := Lib.hid (Nat.le_of_lt HSz.out)
      clear hNh tS hNv c33 hoN hrx
      generalize hy : x.at ks = y at *
      have HY := Lib.hid hy
      clear hy
      have hi : i < 12 := hi12
      go_wp2_with fail
      have hlB := HLB.out.turn0 HTt.out
      refine wp_region_held_drew (S := fun wq => True ∧ wq.rangeAt w2.heap.size 0 y.vals) (by kernel_rfl) ⟨trivial, HRX.out⟩ (fun hHeld => ?_)
      refine wpAnyH_take (i := 0) (v := .pointer (some ⟨T, 0, none⟩)) rfl (by kernel_rfl) (by kernel_rfl) (by kernel_rfl) (fun _ _ _ h => h) (Or.inl ⟨by rfl, ?yq6⟩) (by assumption) ?rq6
      case yq6 => (intro wq hSw; (try simp only [List.getElem_toArray, List.getElem_cons_zero, List.getElem_cons_succ]); go_simp; (try with_reducible rfl); all_goals (try omega))
      case rq6 =>
      try simp only [Act.put, List.setIfInBounds_toArray, List.set_cons_zero, List.set_cons_succ, List.getElem_toArray, List.getElem_cons_zero, List.getElem_cons_succ]
      refine wpAnyH_take (i := 1) (v := .int .i64 (i : Int)) rfl (by kernel_rfl) (by kernel_rfl) (by kernel_rfl) (fun _ _ _ h => h) (Or.inl ⟨by rfl, ?yq7⟩) (by assumption) ?rq7
      case yq7 => (intro wq hSw; (try simp only [List.getElem_toArray, List.getElem_cons_zero, List.getElem_cons_succ]); go_simp; (try with_reducible rfl); all_goals (try omega))
      case rq7 =>
      try simp only [Act.put, List.setIfInBounds_toArray, List.set_cons_zero, List.set_cons_succ, List.getElem_toArray, List.getElem_cons_zero, List.getElem_cons_succ]
      refine wpAnyH_take (i := 2) (v := .agg y.vals.toArray) rfl (by kernel_rfl) (by kernel_rfl) (by kernel_rfl) (fun _ _ _ h => h) (Or.inl ⟨by rfl, ?yq8⟩) (by assumption) ?rq8
      case yq8 => (intro wq hSw; exact exec_load_mid _ _ 37 _ rfl w2.heap.size 0 rfl y.vals _ _ hSw.2 Tryd.underlying37 rfl (by rw [HOK.out.vlen]; exact info37))
      case rq8 =>
      try simp only [Act.put, List.setIfInBounds_toArray, List.set_cons_zero, List.set_cons_succ, List.getElem_toArray, List.getElem_cons_zero, List.getElem_cons_succ]
      refine wpAnyH_take (i := 3) (v := .agg y.vals.toArray) rfl (by kernel_rfl) (by kernel_rfl) (by kernel_rfl) (fun _ _ _ h => h) (Or.inl ⟨by rfl, ?yq9⟩) (by assumption) ?rq9
      case yq9 => (intro wq hSw; exact exec_load_mid _ _ 37 _ rfl w2.heap.size 0 rfl y.vals _ _ hSw.2 Tryd.underlying37 rfl (by rw [HOK.out.vlen]; exact info37))
      case rq9 =>
      try simp only [Act.put, List.setIfInBounds_toArray, List.set_cons_zero, List.set_cons_succ, List.getElem_toArray, List.getElem_cons_zero, List.getElem_cons_succ]
      refine wpAnyH_ready (rs := [4]) (by kernel_rfl) (by simp) ?_
      refine AllReadyH.cons rfl (fun K hK => ?_) AllReadyH.nil
      go_simp
      refine (sealed_any y w4.drew HOK.out HSZ.out hlB.tab).mono ?_
      rintro e w7 ⟨Bs, rfl, hbs, hBs, t7⟩
      have HT7 := Lib.hid (show Turn (fun _ => False) w4 w7 from (Turn.refl (fun _ => False) w4).drew.trans t7 (fun _ _ => id))
      have hBl := hbs.lt
      have HBS := Lib.hid hbs
      have HBs := Lib.hid (show w4.heap.size ≤ Bs from hBs)
      clear hbs t7
      refine hK.out _ _ ⟨trivial, rangeAt_turn HRX.out HT7.out id⟩ (fun _ => ?_)
      clear hK K
      try simp only [Act.put, List.setIfInBounds_toArray, List.set_cons_zero, List.set_cons_succ, List.getElem_toArray, List.getElem_cons_zero, List.getElem_cons_succ]
      refine wpAnyH_ready (rs := [5]) (by kernel_rfl) (by simp) ?_
      refine AllReadyH.cons rfl (fun K hK => ?_) AllReadyH.nil
      go_simp
      have hrd : Src w7 (.slice (some ⟨Bs, 0, none⟩) 64 64) (sealB (refB y)) := .inl (.inr ⟨Bs, 0, 64, by rw [sealB_len], by rw [sealB_len]; omega, fun q hq => by rw [Nat.zero_add]; exact HBS.out.cell q hq⟩)
      have hlB7 := hlB.turn0 HT7.out
      have HRD := Lib.hid hrd
      clear hrd
      refine (llay_any w7 B F T J D d L C n rs i y _ _ hlB7 hi12 HOK.out HRD.out (fun _ k hk hm => by
        have hk' : Bs = k := Option.some.inj hk
        have := hlB.lt k hm
        have := HBs.out
        omega) (sealB_ok _ (refB_ok HOK.out HSZ.out)) (by rw [sealB_len]; omega)).mono ?_
      rintro e w8 ⟨r8, F8, d8, L8, rfl, hs8, hL8, hh8⟩
      have hly : LyPost w B F T J D d L C n rs i y (sealB (refB y)) (.returned (.int .i64 r8)) w8 := LyPost.from_ (HTt.out.trans HT7.out (fun _ _ => id)) ⟨r8, F8, d8, L8, rfl, hs8, hL8, hh8⟩
      have HLY := Lib.hid hly
      refine hK.out _ _ ⟨trivial, rangeAt_turn (rangeAt_turn HRX.out HT7.out id) hs8.turn (fun hm => by have := HLB.out.lt _ hm; have := HBX.out; omega)⟩ (fun _ => ?_)
      clear hK K hly hs8 hh8
      try simp only [Act.put, List.setIfInBounds_toArray, List.set_cons_zero, List.set_cons_succ, List.getElem_toArray, List.getElem_cons_zero, List.getElem_cons_succ]
      refine wpAnyH_take (i := 6) (v := .int .i64 r8) rfl (by kernel_rfl) (by kernel_rfl) (by kernel_rfl) (fun _ _ _ h => h) (Or.inl ⟨by rfl, ?yq10⟩) (by assumption) ?rq10
      case yq10 => (intro wq hSw; (try simp only [List.getElem_toArray, List.getElem_cons_zero, List.getElem_cons_succ]); go_simp; (try with_reducible rfl); all_goals (try omega))
      case rq10 =>
      try simp only [Act.put, List.setIfInBounds_toArray, List.set_cons_zero, List.set_cons_succ, List.getElem_toArray, List.getElem_cons_zero, List.getElem_cons_succ]
      refine wpAnyH_done (by kernel_rfl) ?_ _
      clear hHeld
      go_wp2_with fail
      go_ret
      exact .inr (.inr ⟨HS.out, i, HK.out, hi12, by rw [HX.out]; exact HF.out, by rw [HX.out, HY.out]; exact HLY.out⟩)
    · rw [hfast] at c33
      have HF := Lib.hid hfast
      clear hfast
      go_wp2_with fail
      go_ret
      exact .inr (.inl ⟨HS.out, i, HK.out, hi12, by rw [HX.out]; exact HF.out, rfl, HT3.out⟩)
  · have HK := Lib.hid hk
    clear hk
    go_wp2_with fail
    go_ret
    exact .inl ⟨HK.out, rfl, HT2.out⟩
end Go.Proofs.YtnenkclihgeacaaDoor
/- Own contracts: what a sector tells. No statement is proved here. -/
namespace Go.Proofs.YtnenkclihgeacaaDoor
set_option maxRecDepth 100000
open Go.RowKit
set_option linter.unusedVariables false
set_option linter.unusedSimpArgs false

theorem wp_exec {P : Program} {o : Oper} {a : Act} {K : Act → World → Prop} {Q : Exit → Act → World → Prop} {w w' : World} {v : Value} (he : (execOp a.eval o).run P w = .ok (.value v) w') (h : K (a.put o.dst v) w') : o.wp P a w K Q := by
  unfold Oper.wp
  rw [he]
  exact h
theorem exec_conv31 (ev : Operand → Value) (op : Oper) (x : Operand) (ho : op.op = .convert 31 9 x) (v : Value) (xs : List Int) (w : World) (hx : ev x = v) (h : Reads w v xs) : (execOp ev op).run Tryd.prog w = .ok (.value (.string (strOfNums xs))) w := by
  unfold execOp
  simp only [ho, hx, Sem.run_bind, h.conv, Result.andThen_ok, Sem.run_pure]
theorem told_reads {w : World} {g : Nat} {p : List Int} {N : Nat} (hp : p.length = 64) (hc : ∀ i, i < 64 → w.cell? ⟨g, i, none⟩ = some (.int .u8 (p.getD i 0))) (hN : N ≤ 12) : Reads w (.slice (some ⟨g, 3, none⟩) N 61) ((p.drop 3).take N) := by
  have hl : ((p.drop 3).take N).length = N := by simp [hp]; omega
  refine .inr ⟨g, 3, 61, by rw [hl], by rw [hl]; omega, fun i hi => ?_⟩
  rw [hl] at hi
  rw [hc (3 + i) (by omega)]
  congr 2
  simp [List.getD, List.getElem?_take, hi]
/-- Bytes are told apart by their texts. -/
theorem str_inj {xs ys : List Int} (hx : BytesOk xs) (hy : BytesOk ys) (h1 : (strOfNums xs).toList = (strOfNums ys).toList) : xs = ys := by
  rw [toList_nums, toList_nums] at h1
  induction xs generalizing ys with
  | nil =>
    cases ys with
    | nil => rfl
    | cons y ys => simp at h1
  | cons x xs ih =>
    cases ys with
    | nil => simp at h1
    | cons y ys =>
      simp only [List.map_cons, List.cons.injEq] at h1
      have hx0 := hx x (by simp)
      have hy0 := hy y (by simp)
      have e : x = y := by
        have h2 := congrArg UInt8.toNat h1.1
        simp only [UInt8.toNat_ofNat'] at h2
        omega
      rw [e, ih (fun z hz => hx z (by simp [hz])) (fun z hz => hy z (by simp [hz])) h1.2]

theorem equal_any (v1 v2 : Value) (xs ys : List Int) (w : World) (h1 : Reads w v1 xs) (h2 : Reads w v2 ys) (hx : BytesOk xs) (hy : BytesOk ys) : Calls Tryd.prog 65 #[v1, v2] w fun e w' => e = .returned (.bool (decide (xs = ys))) ∧ w' = w := by
  have q1 := h1.conv
  have q2 := h2.conv
  have hq : ((strOfNums xs).toList == (strOfNums ys).toList) = decide (xs = ys) := by
    by_cases h : xs = ys
    · subst h; simp
    · rw [decide_eq_false h]
      cases he : ((strOfNums xs).toList == (strOfNums ys).toList)
      · rfl
      · exact absurd (str_inj hx hy (by simpa using he)) h
  have HQ := Lib.hid hq
  clear hq h1 h2
  generalize strOfNums xs = s at *
  generalize strOfNums ys = t at *
  go_enter Tryd.func65, Tryd.ntmps65
  go_wp2_with fail
  go_ret
  refine ⟨?_, rfl⟩
  rw [← HQ.out]
  rfl
/-- The ref of which a sector tells. -/
def toldN (p : List Int) : Nat := min (p.getD 2 0).toNat 12
def toldR (p : List Int) : Rf := ⟨strOfNums ((p.drop 3).take (toldN p)), (p.drop 15).take 32, decide (p.getD 1 0 = 1)⟩
theorem toldN_le (p : List Int) : toldN p ≤ 12 := by unfold toldN; omega
theorem toldR_ok {p : List Int} (h : p.length = 64) (hb : BytesOk p) : (toldR p).Ok := ⟨by simp [toldR, h], fun x hx => hb x (List.mem_of_mem_drop (List.mem_of_mem_take hx))⟩
theorem toldR_size (p : List Int) : (toldR p).name.size ≤ 12 := by
  show (strOfNums _).size ≤ 12
  rw [strOfNums_size]
  have := toldN_le p
  simp
  omega
def toldH (p : List Int) : Rf := ⟨strOfNums ((p.drop 3).take (toldN p)), List.replicate 32 0, decide (p.getD 1 0 = 1)⟩
theorem toldH_ok (p : List Int) : (toldH p).Ok := ⟨by simp [toldH], fun x hx => by rw [List.eq_of_mem_replicate hx]; omega⟩
theorem build37b (s : ByteArray) (b : Bool) (w : World) : (Instr.build 37 #[(0, .string s), (2, .bool b)]).run Tryd.prog w = .ok (.agg (Rf.vals ⟨s, List.replicate 32 0, b⟩).toArray) w := by kernel_rfl
theorem exec_build37b (ev : Operand → Value) (op : Oper) (x z : Operand) (ho : op.op = .build 37 #[(0, x), (2, z)]) (s : ByteArray) (b : Bool) (hx : ev x = .string s) (hz : ev z = .bool b) (w : World) : (execOp ev op).run Tryd.prog w = .ok (.value (.agg (Rf.vals ⟨s, List.replicate 32 0, b⟩).toArray)) w := by
  unfold execOp
  simp only [ho, List.map_toArray, List.map_cons, List.map_nil, hx, hz, Sem.run_bind, Sem.run_pure, build37b s b, Result.andThen_ok]
/-- The key is copied out of the sector. -/
theorem copy_told (w : World) (X g : Nat) (p : List Int) (hp : p.length = 64) (hX : w.heap[X]? = some (.cells (toldH p).vals.toArray 37 (0, 0))) (hc : ∀ i, i < 64 → w.cell? ⟨g, i, none⟩ = some (.int .u8 (p.getD i 0))) (ty : TypeId) :
    ∃ w', (Builtin.copy_ #[31, 31] ty #[.slice (some ⟨X, 1, none⟩) 32 32, .slice (some ⟨g, 15, none⟩) 32 49]).run Tryd.prog w = .ok (.int .i64 32) w' ∧
      w'.heap[X]? = some (.cells (toldR p).vals.toArray 37 (0, 0)) ∧ Turn (fun k => k = X) w w' := by
  have hl : ((p.drop 15).take 32).length = 32 := by simp [hp]
  have hr := run_copy_row (P := Tryd.prog) w 31 31 ty 5 X 1 32 32 ⟨g, 15, none⟩ 32 49 _ 37 (((p.drop 15).take 32).map (Value.int .u8)) Tryd.underlying31 info5s hX (by simp [hp]) (fun j v hj => by
      have hj2 : j < 32 := by have := (List.getElem?_eq_some_iff.1 hj).1; simpa [hp] using this
      have h2 := hc (15 + j) (by omega)
      rw [List.getElem?_map, List.getElem?_take, if_pos hj2, List.getElem?_drop] at hj
      have h3 : p[15 + j]? = some (p.getD (15 + j) 0) := by simp [List.getD, show 15 + j < p.length by omega]
      rw [h3] at hj
      simp at hj
      subst hj
      rcases j with _ | j
      · exact h2
      · simpa [Addr.add] using h2) (by simp [hp, (toldH_ok p).vlen]) (fun v hv => by simp only [List.mem_map] at hv; obtain ⟨x, _, rfl⟩ := hv; rfl)
  have hg : goInt (((p.drop 15).take 32).map (Value.int .u8)).length = .int .i64 32 := by rw [List.length_map, hl]; rfl
  rw [hg] at hr
  refine ⟨_, hr, ?_, turn_setRow _ _ _⟩
  rw [setRow_heap _ _ _ _ _ _ hX]
  congr 2
  apply congrArg List.toArray
  show List.take 1 (toldH p).vals ++ _ ++ List.drop (1 + _) (toldH p).vals = _
  simp only [List.length_map, hl]
  simp only [Rf.vals, toldH, toldR, List.take_succ_cons, List.take_zero, List.drop_succ_cons, Nat.add_comm 1 32]
  have hd : (List.map (Value.int .u8) (List.replicate 32 (0 : Int)) ++ [Value.bool (decide (p.getD 1 0 = 1))]).drop 32 = [Value.bool (decide (p.getD 1 0 = 1))] := rfl
  rw [hd]
  simp
def TdPost (w : World) (p : List Int) (e : Ending) (w' : World) : Prop := e = .returned (.agg (toldR p).vals.toArray) ∧ Turn (fun _ => False) w w'
theorem told_results (w : World) (b : Nat) (x : Rf) (hx : x.Ok) (h2 : w.rangeAt b 0 x.vals) (tmps : Array Value) (e4 : tmps.getD 2 undef = .pointer (some ⟨b, 0, none⟩)) :
    (results Tryd.f66 tmps).run Tryd.prog w = .ok (.agg x.vals.toArray) w := by
  have hl : (loadVar 37 ⟨b, 0, none⟩).run Tryd.prog w = .ok (.agg x.vals.toArray) w := run_loadVar_mid (P := Tryd.prog) w b 0 37 x.vals _ h2 Tryd.underlying37 rfl (by rw [hx.vlen]; exact info37)
  have hr : Tryd.f66.results = #[.cell 2 37] := by kernel_rfl
  have e4' : tmps[2]?.getD undef = .pointer (some ⟨b, 0, none⟩) := by simpa using e4
  simp [results, hr, e4', asAddr, hl]
set_option maxHeartbeats 8000000 in
theorem told_any (w : World) (g : Nat) (p : List Int) (hp : p.length = 64) (hb : BytesOk p) (hc : ∀ i, i < 64 → w.cell? ⟨g, i, none⟩ = some (.int .u8 (p.getD i 0))) : Calls Tryd.prog 66 #[.slice (some ⟨g, 0, none⟩) 64 64] w (TdPost w p) := by
  have hgl : g < w.heap.size := World.block_lt_of_cell? _ _ (hc 0 (by omega))
  have hbx := box_alloc w 37 z37
  have hz := zero37
  obtain ⟨w1, hw1⟩ : ∃ w1, w.alloc (.cells z37.toArray 37) = w1 := ⟨_, rfl⟩
  rw [hw1] at hbx
  have hc1 : ∀ i, i < 64 → w1.cell? ⟨g, i, none⟩ = some (.int .u8 (p.getD i 0)) := fun i hi => (hbx.turn.cell (p := ⟨g, i, none⟩) hgl id).trans (hc i hi)
  have k2 := hc1 2 (by omega)
  have hb2 : 0 ≤ p.getD 2 0 ∧ p.getD 2 0 < 256 := hb _ (by simp [List.getD, hp])
  obtain ⟨b2, hb2e⟩ := Int.eq_ofNat_of_zero_le hb2.1
  have hN : toldN p = min b2 12 := by unfold toldN; rw [hb2e]; rfl
  rw [hb2e] at k2 hb2
  have HN := Lib.hid hN
  have HB := Lib.hid hbx
  have HC1 := Lib.hid hc1
  have HGL := Lib.hid hgl
  clear hN hbx hc1 hgl hc hb2e
  by_cases h12 : b2 ≤ 12
  · have m1 : min (b2 : Int) 12 = (b2 : Int) := by omega
    have m2 : decide ((b2 : Int) ≤ 12) = true := decide_eq_true (by omega)
    have m3 : decide ((12 : Int) < (b2 : Int)) = false := decide_eq_false (by omega)
    have m4 : (b2 : Int) ≤ 12 := by omega
    go_enter Tryd.func66, Tryd.ntmps66
    have hth0 : toldN p = b2 := by rw [HN.out]; omega
    have HN0 := Lib.hid hth0
    clear hth0
    have hw3 : IntKind.i64.wrap (3 + (b2 : Int)) = 3 + (b2 : Int) := by rw [IntKind.wrap_i64]; omega
    have hgi : (0 : Int) ≤ 3 ∧ (3 : Int) ≤ 3 + (b2 : Int) ∧ 3 + (b2 : Int) ≤ 64 := by omega
    have hw15 : IntKind.i64.wrap 15 = 15 := by rw [IntKind.wrap_i64]; omega
    have hgo1 : (3 : Int) ≤ 3 + (b2 : Int) := by omega
    have hgo2 : 3 + (b2 : Int) ≤ 64 := by omega
    have hto : (3 + (b2 : Int)).toNat = 3 + b2 := by omega
    have hts : 3 + b2 - 3 = b2 := by omega
    go_wp2_with fail
    clear hw1
    refine wp_region_held_drew (S := fun wq => (∀ i, i < 64 → wq.cell? ⟨g, i, none⟩ = some (.int .u8 (p.getD i 0))) ∧ True) (by kernel_rfl) ⟨HC1.out, trivial⟩ (fun hHeld => ?_)
    refine wpAnyH_take (i := 0) (v := .slice (some ⟨g, 0, none⟩) 64 64) rfl (by kernel_rfl) (by kernel_rfl) (by kernel_rfl) (fun _ _ _ h => h) (Or.inl ⟨by rfl, ?yq1⟩) (by assumption) ?rq1
    case yq1 => (intro wq hSw; (try simp only [List.getElem_toArray, List.getElem_cons_zero, List.getElem_cons_succ]); go_simp; (try with_reducible rfl); all_goals (try omega))
    case rq1 =>
    try simp only [Act.put, List.setIfInBounds_toArray, List.set_cons_zero, List.set_cons_succ, List.getElem_toArray, List.getElem_cons_zero, List.getElem_cons_succ]
    refine wpAnyH_take (i := 1) (v := .int .i64 (b2 : Int)) rfl (by kernel_rfl) (by kernel_rfl) (by kernel_rfl) (fun _ _ _ h => h) (Or.inl ⟨by rfl, ?yq2⟩) (by assumption) ?rq2
    case yq2 => (intro wq hSw; (try simp only [List.getElem_toArray, List.getElem_cons_zero, List.getElem_cons_succ]); go_simp; (try with_reducible rfl); all_goals (try omega))
    case rq2 =>
    try simp only [Act.put, List.setIfInBounds_toArray, List.set_cons_zero, List.set_cons_succ, List.getElem_toArray, List.getElem_cons_zero, List.getElem_cons_succ]
    refine wpAnyH_take (i := 2) (v := .int .i64 (3 + (b2 : Int))) rfl (by kernel_rfl) (by kernel_rfl) (by kernel_rfl) (fun _ _ _ h => h) (Or.inl ⟨by rfl, ?yq3⟩) (by assumption) ?rq3
    case yq3 => (intro wq hSw; (try simp only [List.getElem_toArray, List.getElem_cons_zero, List.getElem_cons_succ]); go_simp; (try with_reducible rfl); all_goals (try omega))
    case rq3 =>
    try simp only [Act.put, List.setIfInBounds_toArray, List.set_cons_zero, List.set_cons_succ, List.getElem_toArray, List.getElem_cons_zero, List.getElem_cons_succ]
    refine wpAnyH_take (i := 3) (v := .slice (some ⟨g, 3, none⟩) b2 61) rfl (by kernel_rfl) (by kernel_rfl) (by kernel_rfl) (fun _ _ _ h => h) (Or.inl ⟨by rfl, ?yq4⟩) (by assumption) ?rq4
    case yq4 => (intro wq hSw; (try simp only [List.getElem_toArray, List.getElem_cons_zero, List.getElem_cons_succ]); go_simp; (try with_reducible rfl); all_goals (try omega))
    case rq4 =>
    try simp only [Act.put, List.setIfInBounds_toArray, List.set_cons_zero, List.set_cons_succ, List.getElem_toArray, List.getElem_cons_zero, List.getElem_cons_succ]
    refine wpAnyH_take (i := 4) (v := .string (strOfNums ((p.drop 3).take b2))) rfl (by kernel_rfl) (by kernel_rfl) (by kernel_rfl) (fun _ _ _ h => h) (Or.inl ⟨by rfl, ?yq5⟩) (by assumption) ?rq5
    case yq5 => (intro wq hSw; exact exec_conv31 _ _ _ rfl (.slice (some ⟨g, 3, none⟩) b2 61) _ wq rfl (told_reads (N := b2) hp hSw.1 (by omega)))
    case rq5 =>
    try simp only [Act.put, List.setIfInBounds_toArray, List.set_cons_zero, List.set_cons_succ, List.getElem_toArray, List.getElem_cons_zero, List.getElem_cons_succ]
    refine wpAnyH_take (i := 5) (v := .slice (some ⟨g, 0, none⟩) 64 64) rfl (by kernel_rfl) (by kernel_rfl) (by kernel_rfl) (fun _ _ _ h => h) (Or.inl ⟨by rfl, ?yq6⟩) (by assumption) ?rq6
    case yq6 => (intro wq hSw; (try simp only [List.getElem_toArray, List.getElem_cons_zero, List.getElem_cons_succ]); go_simp; (try with_reducible rfl); all_goals (try omega))
    case rq6 =>
    try simp only [Act.put, List.setIfInBounds_toArray, List.set_cons_zero, List.set_cons_succ, List.getElem_toArray, List.getElem_cons_zero, List.getElem_cons_succ]
    refine wpAnyH_take (i := 6) (v := .pointer (some ⟨g, 1, none⟩)) rfl (by kernel_rfl) (by kernel_rfl) (by kernel_rfl) (fun _ _ _ h => h) (Or.inl ⟨by rfl, ?yq7⟩) (by assumption) ?rq7
    case yq7 => (intro wq hSw; (try simp only [List.getElem_toArray, List.getElem_cons_zero, List.getElem_cons_succ]); go_simp; (try with_reducible rfl); all_goals (try omega))
    case rq7 =>
    try simp only [Act.put, List.setIfInBounds_toArray, List.set_cons_zero, List.set_cons_succ, List.getElem_toArray, List.getElem_cons_zero, List.getElem_cons_succ]
    refine wpAnyH_take (i := 7) (v := .int .u8 (p.getD 1 0)) rfl (by kernel_rfl) (by kernel_rfl) (by kernel_rfl) (fun _ _ _ h => h) (Or.inl ⟨by rfl, ?yq8⟩) (by assumption) ?rq8
    case yq8 => (intro wq hSw; have z1 := hSw.1 1 (by omega); (try simp only [List.getElem_toArray, List.getElem_cons_zero, List.getElem_cons_succ]); go_simp; (try with_reducible rfl); all_goals (try omega))
    case rq8 =>
    try simp only [Act.put, List.setIfInBounds_toArray, List.set_cons_zero, List.set_cons_succ, List.getElem_toArray, List.getElem_cons_zero, List.getElem_cons_succ]
    refine wpAnyH_take (i := 8) (v := .bool (p.getD 1 0 == 1)) rfl (by kernel_rfl) (by kernel_rfl) (by kernel_rfl) (fun _ _ _ h => h) (Or.inl ⟨by rfl, ?yq9⟩) (by assumption) ?rq9
    case yq9 => (intro wq hSw; (try simp only [List.getElem_toArray, List.getElem_cons_zero, List.getElem_cons_succ]); go_simp; (try with_reducible rfl); all_goals (try omega))
    case rq9 =>
    try simp only [Act.put, List.setIfInBounds_toArray, List.set_cons_zero, List.set_cons_succ, List.getElem_toArray, List.getElem_cons_zero, List.getElem_cons_succ]
    refine wpAnyH_take (i := 9) (v := .agg (Rf.vals ⟨strOfNums ((p.drop 3).take b2), List.replicate 32 0, p.getD 1 0 == 1⟩).toArray) rfl (by kernel_rfl) (by kernel_rfl) (by kernel_rfl) (fun _ _ _ h => h) (Or.inl ⟨by rfl, ?yq10⟩) (by assumption) ?rq10
    case yq10 => (intro wq hSw; exact exec_build37b _ _ _ _ rfl _ _ rfl rfl wq)
    case rq10 =>
    try simp only [Act.put, List.setIfInBounds_toArray, List.set_cons_zero, List.set_cons_succ, List.getElem_toArray, List.getElem_cons_zero, List.getElem_cons_succ]
    have hH : (⟨strOfNums ((p.drop 3).take b2), List.replicate 32 0, p.getD 1 0 == 1⟩ : Rf) = toldH p := by
      unfold toldH
      rw [HN0.out]
      congr 1
    rw [hH]
    clear hH
    refine wpAnyH_ready (rs := [10]) (by kernel_rfl) (by simp) ?_
    refine AllReadyH.cons rfl (fun K hK => ?_) AllReadyH.nil
    rw [if_pos (by rfl)]
    refine wp_exec (exec_zero37 _ _ rfl w1.drew) ?_
    refine hK.out _ _ ⟨fun i hi => (((Turn.refl (fun _ => False) w1).drew.alloc (.cells z37.toArray 37)).cell (p := ⟨g, i, none⟩) (Nat.lt_of_lt_of_le HGL.out HB.out.turn.size) id).trans (HC1.out i hi), trivial⟩ (fun _ => ?_)
    clear hK K
    try simp only [Act.put, List.setIfInBounds_toArray, List.set_cons_zero, List.set_cons_succ, List.getElem_toArray, List.getElem_cons_zero, List.getElem_cons_succ]
    refine wpAnyH_ready (rs := [11]) (by kernel_rfl) (by simp) ?_
    refine AllReadyH.cons rfl (fun K hK => ?_) AllReadyH.nil
    rw [if_pos (by rfl)]
    refine wp_store_mid 37 (.tmp 4) (.tmp 19) rfl w1.drew.heap.size 0 (toldH p).vals.toArray rfl rfl (by simpa [(toldH_ok p).vlen] using rf_there rf0_ok (heap_alloc_new w1.drew (.cells z37.toArray 37))) (info37v (toldH_ok p)) (all_oneCell_toArray (toldH p).vals_one) ?_
    have hb2x := box_set w1.drew 37 z37 (toldH p).vals ((show z37.length = 34 from rf0_ok.vlen).trans (toldH_ok p).vlen.symm)
    rw [show (toldH p).vals.toArray.toList = (toldH p).vals from rfl]
    generalize (w1.drew.alloc (.cells z37.toArray 37)).setCells w1.drew.heap.size 0 (toldH p).vals = w3 at *
    have hc3 : ∀ i, i < 64 → w3.cell? ⟨g, i, none⟩ = some (.int .u8 (p.getD i 0)) := fun i hi => (hb2x.turn.cell (p := ⟨g, i, none⟩) (Nat.lt_of_lt_of_le HGL.out HB.out.turn.size) id).trans (HC1.out i hi)
    refine hK.out _ _ ⟨hc3, trivial⟩ (fun _ => ?_)
    clear hK K
    try simp only [Act.put, List.setIfInBounds_toArray, List.set_cons_zero, List.set_cons_succ, List.getElem_toArray, List.getElem_cons_zero, List.getElem_cons_succ]
    refine wpAnyH_done (by kernel_rfl) ?_ _
    clear hHeld
    have HT3 := Lib.hid (show Turn (fun _ => False) w w3 from HB.out.turn.drew.trans hb2x.turn (fun _ _ => id))
    obtain ⟨w4, hc4, hX4, t4⟩ := copy_told w3.drew w1.drew.heap.size g p hp hb2x.heap hc3 3
    have HX4 := Lib.hid hX4
    have HT4 := Lib.hid (HT3.out.drew.trans t4 (fun q hq e => by have := HB.out.size; have e' : q = w1.heap.size := e; omega))
    have HT34 := Lib.hid (show Turn (fun k => k = w1.drew.heap.size) w3 w4 from (Turn.refl (fun k => k = w1.drew.heap.size) w3).drew.trans t4 (fun _ _ h => h))
    have HB3 := Lib.hid hb2x
    clear hX4 t4 hc3 hb2x
    generalize hXX : w1.drew.heap.size = X at *
    have HXX := Lib.hid (show w1.heap.size = X from hXX)
    clear hXX hw15 hw3 hgi hgo1 hgo2 hto hts k2
    go_wp2_with fail
    go_region
    clear hc4
    go_wp2_with (with_reducible (show wpList _ _ _ (Oper.mk (some 25) (.load 37 (.tmp 4)) _ _ _ _ :: _) _ _); refine still ?_)
    refine wpList_load_mid rfl 37 (.tmp 4) rfl X 0 rfl (toldR p).vals _ (fun j v hj => by rw [Nat.zero_add, cell_of_row _ _ j _ 37 (0, 0) HX4.out]; simpa using hj) Tryd.underlying37 rfl (by rw [(toldR_ok hp hb).vlen]; exact info37) ?_
    go_wp2_with (with_reducible (show wpList _ _ _ (Oper.mk none (.store 37 (.tmp 2) (.tmp 25)) _ _ _ _ :: _) _ _); refine still ?_)
    have hRz : w4.heap[w.heap.size]? = some (.cells z37.toArray 37 (0, 0)) := by
      have e1 : w3.heap[w.heap.size]? = some (.cells z37.toArray 37 (0, 0)) := (HB3.out.turn.block _ (by show _ < w1.heap.size; rw [HB.out.size]; exact Nat.lt_succ_self _) id).trans HB.out.heap
      exact (HT34.out.block _ (Array.getElem?_eq_some_iff.1 e1).1 (fun e => by have := HXX.out; have := HB.out.size; omega)).trans e1
    refine wpList_store_mid rfl 37 (.tmp 2) (.tmp 25) rfl w.heap.size 0 (toldR p).vals.toArray rfl rfl (by simpa [(toldR_ok hp hb).vlen] using rf_there rf0_ok hRz) (info37v (toldR_ok hp hb)) (all_oneCell_toArray (toldR p).vals_one) ?_
    have tS := turn_setCells w.heap.size (toldR p).vals 0 w4
    have hNN := heap_setCells w.heap.size 37 (toldR p).vals 0 w4 z37 hRz (by rw [(toldR_ok hp hb).vlen]; exact Nat.le_of_eq rf0_ok.vlen.symm)
    have hNv : z37.take 0 ++ (toldR p).vals ++ z37.drop (0 + (toldR p).vals.length) = (toldR p).vals := by rw [(toldR_ok hp hb).vlen]; simp [z37]; exact Nat.le_of_eq rf0_ok.vlen
    rw [hNv] at hNN
    rw [show (toldR p).vals.toArray.toList = (toldR p).vals from rfl]
    generalize w4.setCells w.heap.size 0 (toldR p).vals = w5 at *
    have HN5 := Lib.hid hNN
    have HT5 := Lib.hid (HT4.out.trans tS (fun q hq e => by omega))
    clear hNN tS hNv hRz
    go_wp2_with fail
    refine bodyPost_ret (told_results w5 w.heap.size (toldR p) (toldR_ok hp hb) (fun j v hj => by rw [Nat.zero_add, cell_of_row _ _ j _ 37 (0, 0) HN5.out]; simpa using hj) _ rfl) rfl ?_
    exact ⟨rfl, HT5.out⟩
  · have m1 : min (b2 : Int) 12 = 12 := by omega
    have m2 : decide ((b2 : Int) < 12) = false := decide_eq_false (by omega)
    have m4 : ¬ (b2 : Int) ≤ 12 := by omega
    have m5 : ¬ b2 ≤ 12 := by omega
    have m6 : decide ((b2 : Int) ≤ 12) = false := decide_eq_false m4
    go_enter Tryd.func66, Tryd.ntmps66
    have hth0 : toldN p = 12 := by rw [HN.out]; omega
    have HN0 := Lib.hid hth0
    clear hth0
    have hw3 : IntKind.i64.wrap (3 + (12 : Int)) = 3 + (12 : Int) := by rw [IntKind.wrap_i64]; omega
    have hgi : (0 : Int) ≤ 3 ∧ (3 : Int) ≤ 3 + (12 : Int) ∧ 3 + (12 : Int) ≤ 64 := by omega
    have hw15 : IntKind.i64.wrap 15 = 15 := by rw [IntKind.wrap_i64]; omega
    have hgo1 : (3 : Int) ≤ 3 + (12 : Int) := by omega
    have hgo2 : 3 + (12 : Int) ≤ 64 := by omega
    have hto : (3 + (12 : Int)).toNat = 3 + 12 := by omega
    have hts : 3 + 12 - 3 = 12 := by omega
    go_wp2_with fail
    clear hw1
    refine wp_region_held_drew (S := fun wq => (∀ i, i < 64 → wq.cell? ⟨g, i, none⟩ = some (.int .u8 (p.getD i 0))) ∧ True) (by kernel_rfl) ⟨HC1.out, trivial⟩ (fun hHeld => ?_)
    refine wpAnyH_take (i := 0) (v := .slice (some ⟨g, 0, none⟩) 64 64) rfl (by kernel_rfl) (by kernel_rfl) (by kernel_rfl) (fun _ _ _ h => h) (Or.inl ⟨by rfl, ?yq11⟩) (by assumption) ?rq11
    case yq11 => (intro wq hSw; (try simp only [List.getElem_toArray, List.getElem_cons_zero, List.getElem_cons_succ]); go_simp; (try with_reducible rfl); all_goals (try omega))
    case rq11 =>
    try simp only [Act.put, List.setIfInBounds_toArray, List.set_cons_zero, List.set_cons_succ, List.getElem_toArray, List.getElem_cons_zero, List.getElem_cons_succ]
    refine wpAnyH_take (i := 1) (v := .int .i64 (12 : Int)) rfl (by kernel_rfl) (by kernel_rfl) (by kernel_rfl) (fun _ _ _ h => h) (Or.inl ⟨by rfl, ?yq12⟩) (by assumption) ?rq12
    case yq12 => (intro wq hSw; (try simp only [List.getElem_toArray, List.getElem_cons_zero, List.getElem_cons_succ]); go_simp; (try with_reducible rfl); all_goals (try omega))
    case rq12 =>
    try simp only [Act.put, List.setIfInBounds_toArray, List.set_cons_zero, List.set_cons_succ, List.getElem_toArray, List.getElem_cons_zero, List.getElem_cons_succ]
    refine wpAnyH_take (i := 2) (v := .int .i64 15) rfl (by kernel_rfl) (by kernel_rfl) (by kernel_rfl) (fun _ _ _ h => h) (Or.inl ⟨by rfl, ?yq13⟩) (by assumption) ?rq13
    case yq13 => (intro wq hSw; (try simp only [List.getElem_toArray, List.getElem_cons_zero, List.getElem_cons_succ]); go_simp; (try with_reducible rfl); all_goals (try omega))
    case rq13 =>
    try simp only [Act.put, List.setIfInBounds_toArray, List.set_cons_zero, List.set_cons_succ, List.getElem_toArray, List.getElem_cons_zero, List.getElem_cons_succ]
    refine wpAnyH_take (i := 3) (v := .slice (some ⟨g, 3, none⟩) 12 61) rfl (by kernel_rfl) (by kernel_rfl) (by kernel_rfl) (fun _ _ _ h => h) (Or.inl ⟨by rfl, ?yq14⟩) (by assumption) ?rq14
    case yq14 => (intro wq hSw; (try simp only [List.getElem_toArray, List.getElem_cons_zero, List.getElem_cons_succ]); go_simp; (try with_reducible rfl); all_goals (try omega))
    case rq14 =>
    try simp only [Act.put, List.setIfInBounds_toArray, List.set_cons_zero, List.set_cons_succ, List.getElem_toArray, List.getElem_cons_zero, List.getElem_cons_succ]
    refine wpAnyH_take (i := 4) (v := .string (strOfNums ((p.drop 3).take 12))) rfl (by kernel_rfl) (by kernel_rfl) (by kernel_rfl) (fun _ _ _ h => h) (Or.inl ⟨by rfl, ?yq15⟩) (by assumption) ?rq15
    case yq15 => (intro wq hSw; exact exec_conv31 _ _ _ rfl (.slice (some ⟨g, 3, none⟩) 12 61) _ wq rfl (told_reads (N := 12) hp hSw.1 (by omega)))
    case rq15 =>
    try simp only [Act.put, List.setIfInBounds_toArray, List.set_cons_zero, List.set_cons_succ, List.getElem_toArray, List.getElem_cons_zero, List.getElem_cons_succ]
    refine wpAnyH_take (i := 5) (v := .slice (some ⟨g, 0, none⟩) 64 64) rfl (by kernel_rfl) (by kernel_rfl) (by kernel_rfl) (fun _ _ _ h => h) (Or.inl ⟨by rfl, ?yq16⟩) (by assumption) ?rq16
    case yq16 => (intro wq hSw; (try simp only [List.getElem_toArray, List.getElem_cons_zero, List.getElem_cons_succ]); go_simp; (try with_reducible rfl); all_goals (try omega))
    case rq16 =>
    try simp only [Act.put, List.setIfInBounds_toArray, List.set_cons_zero, List.set_cons_succ, List.getElem_toArray, List.getElem_cons_zero, List.getElem_cons_succ]
    refine wpAnyH_take (i := 6) (v := .pointer (some ⟨g, 1, none⟩)) rfl (by kernel_rfl) (by kernel_rfl) (by kernel_rfl) (fun _ _ _ h => h) (Or.inl ⟨by rfl, ?yq17⟩) (by assumption) ?rq17
    case yq17 => (intro wq hSw; (try simp only [List.getElem_toArray, List.getElem_cons_zero, List.getElem_cons_succ]); go_simp; (try with_reducible rfl); all_goals (try omega))
    case rq17 =>
    try simp only [Act.put, List.setIfInBounds_toArray, List.set_cons_zero, List.set_cons_succ, List.getElem_toArray, List.getElem_cons_zero, List.getElem_cons_succ]
    refine wpAnyH_take (i := 7) (v := .int .u8 (p.getD 1 0)) rfl (by kernel_rfl) (by kernel_rfl) (by kernel_rfl) (fun _ _ _ h => h) (Or.inl ⟨by rfl, ?yq18⟩) (by assumption) ?rq18
    case yq18 => (intro wq hSw; have z1 := hSw.1 1 (by omega); (try simp only [List.getElem_toArray, List.getElem_cons_zero, List.getElem_cons_succ]); go_simp; (try with_reducible rfl); all_goals (try omega))
    case rq18 =>
    try simp only [Act.put, List.setIfInBounds_toArray, List.set_cons_zero, List.set_cons_succ, List.getElem_toArray, List.getElem_cons_zero, List.getElem_cons_succ]
    refine wpAnyH_take (i := 8) (v := .bool (p.getD 1 0 == 1)) rfl (by kernel_rfl) (by kernel_rfl) (by kernel_rfl) (fun _ _ _ h => h) (Or.inl ⟨by rfl, ?yq19⟩) (by assumption) ?rq19
    case yq19 => (intro wq hSw; (try simp only [List.getElem_toArray, List.getElem_cons_zero, List.getElem_cons_succ]); go_simp; (try with_reducible rfl); all_goals (try omega))
    case rq19 =>
    try simp only [Act.put, List.setIfInBounds_toArray, List.set_cons_zero, List.set_cons_succ, List.getElem_toArray, List.getElem_cons_zero, List.getElem_cons_succ]
    refine wpAnyH_take (i := 9) (v := .agg (Rf.vals ⟨strOfNums ((p.drop 3).take 12), List.replicate 32 0, p.getD 1 0 == 1⟩).toArray) rfl (by kernel_rfl) (by kernel_rfl) (by kernel_rfl) (fun _ _ _ h => h) (Or.inl ⟨by rfl, ?yq20⟩) (by assumption) ?rq20
    case yq20 => (intro wq hSw; exact exec_build37b _ _ _ _ rfl _ _ rfl rfl wq)
    case rq20 =>
    try simp only [Act.put, List.setIfInBounds_toArray, List.set_cons_zero, List.set_cons_succ, List.getElem_toArray, List.getElem_cons_zero, List.getElem_cons_succ]
    have hH : (⟨strOfNums ((p.drop 3).take 12), List.replicate 32 0, p.getD 1 0 == 1⟩ : Rf) = toldH p := by
      unfold toldH
      rw [HN0.out]
      congr 1
    rw [hH]
    clear hH
    refine wpAnyH_ready (rs := [10]) (by kernel_rfl) (by simp) ?_
    refine AllReadyH.cons rfl (fun K hK => ?_) AllReadyH.nil
    rw [if_pos (by rfl)]
    refine wp_exec (exec_zero37 _ _ rfl w1.drew) ?_
    refine hK.out _ _ ⟨fun i hi => (((Turn.refl (fun _ => False) w1).drew.alloc (.cells z37.toArray 37)).cell (p := ⟨g, i, none⟩) (Nat.lt_of_lt_of_le HGL.out HB.out.turn.size) id).trans (HC1.out i hi), trivial⟩ (fun _ => ?_)
    clear hK K
    try simp only [Act.put, List.setIfInBounds_toArray, List.set_cons_zero, List.set_cons_succ, List.getElem_toArray, List.getElem_cons_zero, List.getElem_cons_succ]
    refine wpAnyH_ready (rs := [11]) (by kernel_rfl) (by simp) ?_
    refine AllReadyH.cons rfl (fun K hK => ?_) AllReadyH.nil
    rw [if_pos (by rfl)]
    refine wp_store_mid 37 (.tmp 4) (.tmp 19) rfl w1.drew.heap.size 0 (toldH p).vals.toArray rfl rfl (by simpa [(toldH_ok p).vlen] using rf_there rf0_ok (heap_alloc_new w1.drew (.cells z37.toArray 37))) (info37v (toldH_ok p)) (all_oneCell_toArray (toldH p).vals_one) ?_
    have hb2x := box_set w1.drew 37 z37 (toldH p).vals ((show z37.length = 34 from rf0_ok.vlen).trans (toldH_ok p).vlen.symm)
    rw [show (toldH p).vals.toArray.toList = (toldH p).vals from rfl]
    generalize (w1.drew.alloc (.cells z37.toArray 37)).setCells w1.drew.heap.size 0 (toldH p).vals = w3 at *
    have hc3 : ∀ i, i < 64 → w3.cell? ⟨g, i, none⟩ = some (.int .u8 (p.getD i 0)) := fun i hi => (hb2x.turn.cell (p := ⟨g, i, none⟩) (Nat.lt_of_lt_of_le HGL.out HB.out.turn.size) id).trans (HC1.out i hi)
    refine hK.out _ _ ⟨hc3, trivial⟩ (fun _ => ?_)
    clear hK K
    try simp only [Act.put, List.setIfInBounds_toArray, List.set_cons_zero, List.set_cons_succ, List.getElem_toArray, List.getElem_cons_zero, List.getElem_cons_succ]
    refine wpAnyH_done (by kernel_rfl) ?_ _
    clear hHeld
    have HT3 := Lib.hid (show Turn (fun _ => False) w w3 from HB.out.turn.drew.trans hb2x.turn (fun _ _ => id))
    obtain ⟨w4, hc4, hX4, t4⟩ := copy_told w3.drew w1.drew.heap.size g p hp hb2x.heap hc3 3
    have HX4 := Lib.hid hX4
    have HT4 := Lib.hid (HT3.out.drew.trans t4 (fun q hq e => by have := HB.out.size; have e' : q = w1.heap.size := e; omega))
    have HT34 := Lib.hid (show Turn (fun k => k = w1.drew.heap.size) w3 w4 from (Turn.refl (fun k => k = w1.drew.heap.size) w3).drew.trans t4 (fun _ _ h => h))
    have HB3 := Lib.hid hb2x
    clear hX4 t4 hc3 hb2x
    generalize hXX : w1.drew.heap.size = X at *
    have HXX := Lib.hid (show w1.heap.size = X from hXX)
    clear hXX hw15 hw3 hgi hgo1 hgo2 hto hts k2
    go_wp2_with fail
    go_region
    clear hc4
    go_wp2_with (with_reducible (show wpList _ _ _ (Oper.mk (some 25) (.load 37 (.tmp 4)) _ _ _ _ :: _) _ _); refine still ?_)
    refine wpList_load_mid rfl 37 (.tmp 4) rfl X 0 rfl (toldR p).vals _ (fun j v hj => by rw [Nat.zero_add, cell_of_row _ _ j _ 37 (0, 0) HX4.out]; simpa using hj) Tryd.underlying37 rfl (by rw [(toldR_ok hp hb).vlen]; exact info37) ?_
    go_wp2_with (with_reducible (show wpList _ _ _ (Oper.mk none (.store 37 (.tmp 2) (.tmp 25)) _ _ _ _ :: _) _ _); refine still ?_)
    have hRz : w4.heap[w.heap.size]? = some (.cells z37.toArray 37 (0, 0)) := by
      have e1 : w3.heap[w.heap.size]? = some (.cells z37.toArray 37 (0, 0)) := (HB3.out.turn.block _ (by show _ < w1.heap.size; rw [HB.out.size]; exact Nat.lt_succ_self _) id).trans HB.out.heap
      exact (HT34.out.block _ (Array.getElem?_eq_some_iff.1 e1).1 (fun e => by have := HXX.out; have := HB.out.size; omega)).trans e1
    refine wpList_store_mid rfl 37 (.tmp 2) (.tmp 25) rfl w.heap.size 0 (toldR p).vals.toArray rfl rfl (by simpa [(toldR_ok hp hb).vlen] using rf_there rf0_ok hRz) (info37v (toldR_ok hp hb)) (all_oneCell_toArray (toldR p).vals_one) ?_
    have tS := turn_setCells w.heap.size (toldR p).vals 0 w4
    have hNN := heap_setCells w.heap.size 37 (toldR p).vals 0 w4 z37 hRz (by rw [(toldR_ok hp hb).vlen]; exact Nat.le_of_eq rf0_ok.vlen.symm)
    have hNv : z37.take 0 ++ (toldR p).vals ++ z37.drop (0 + (toldR p).vals.length) = (toldR p).vals := by rw [(toldR_ok hp hb).vlen]; simp [z37]; exact Nat.le_of_eq rf0_ok.vlen
    rw [hNv] at hNN
    rw [show (toldR p).vals.toArray.toList = (toldR p).vals from rfl]
    generalize w4.setCells w.heap.size 0 (toldR p).vals = w5 at *
    have HN5 := Lib.hid hNN
    have HT5 := Lib.hid (HT4.out.trans tS (fun q hq e => by omega))
    clear hNN tS hNv hRz
    go_wp2_with fail
    refine bodyPost_ret (told_results w5 w.heap.size (toldR p) (toldR_ok hp hb) (fun j v hj => by rw [Nat.zero_add, cell_of_row _ _ j _ 37 (0, 0) HN5.out]; simpa using hj) _ rfl) rfl ?_
    exact ⟨rfl, HT5.out⟩
end Go.Proofs.YtnenkclihgeacaaDoor
/- Own contracts: a sector is taken in. No statement is proved here. -/
namespace Go.Proofs.YtnenkclihgeacaaDoor
set_option maxRecDepth 100000
open Go.RowKit
set_option linter.unusedVariables false
set_option linter.unusedSimpArgs false

def goodP (rs : List Rf) (p : List Int) : Prop := p = sealB (refB (toldR p)) ∧ rightB (toldR p).name = true ∧ rs.findIdx? (nmB (toldR p).name) = none
def AdPost (w : World) (T J : Nat) (rs : List Rf) (i : Nat) (p : List Int) (e : Ending) (w' : World) : Prop :=
  (p = noughts ∧ e = .returned (.bool true) ∧ Turn (fun _ => False) w w') ∨
  (p ≠ noughts ∧ ¬ goodP rs p ∧ e = .returned (.bool false) ∧ Turn (fun _ => False) w w') ∨
  (p ≠ noughts ∧ goodP rs p ∧ e = .returned (.bool true) ∧ TbAt w' T J (rs.set i (toldR p)) ∧ Turn (fun k => k = T) w w')
set_option maxHeartbeats 8000000 in
theorem admit_any (w : World) (T J g : Nat) (rs : List Rf) (i : Nat) (p : List Int) (ht : TbAt w T J rs) (hi : i < 12) (tab : Tab w) (hp : p.length = 64) (hb : BytesOk p) (hc : ∀ i, i < 64 → w.cell? ⟨g, i, none⟩ = some (.int .u8 (p.getD i 0))) :
    Calls Tryd.prog 41 #[.pointer (some ⟨T, 0, none⟩), .int .i64 (i : Int), .slice (some ⟨g, 0, none⟩) 64 64] w (AdPost w T J rs i p) := by
  have hgl : g < w.heap.size := World.block_lt_of_cell? _ _ (hc 0 (by omega))
  have hrd : ∀ wq, Turn (fun _ => False) w wq → Reads wq (.slice (some ⟨g, 0, none⟩) 64 64) p := fun wq t => .inr ⟨g, 0, 64, by rw [hp], by omega, fun i hi => by rw [Nat.zero_add]; exact (t.cell (p := ⟨g, i, none⟩) hgl id).trans (hc i (by omega))⟩
  have hcc : ∀ wq, Turn (fun _ => False) w wq → ∀ i, i < 64 → wq.cell? ⟨g, i, none⟩ = some (.int .u8 (p.getD i 0)) := fun wq t i hi => (t.cell (p := ⟨g, i, none⟩) hgl id).trans (hc i hi)
  have hmk : (Instr.makeSlice 31 (.int .i64 64) (.int .i64 64)).run Tryd.prog w = .ok (.slice (some ⟨w.heap.size, 0, none⟩) 64 64) (w.alloc (.cells (Array.replicate 64 (.int .u8 0)) 5)) := run_make_bytes 64 64 (by omega) (by omega) w
  have hn := made_at w 64
  have t1 : Turn (fun _ => False) w (w.alloc (.cells (Array.replicate 64 (.int .u8 0)) 5)) := (Turn.refl _ w).alloc _
  obtain ⟨w1, hw1⟩ : ∃ w1, w.alloc (.cells (Array.replicate 64 (.int .u8 0)) 5) = w1 := ⟨_, rfl⟩
  rw [hw1] at hmk hn t1
  have r2 : Reads w1 (.slice (some ⟨w.heap.size, 0, none⟩) 64 64) noughts := .inr ⟨w.heap.size, 0, 64, by simp [noughts], by simp [noughts], fun i hi => by
    rw [Nat.zero_add]; exact hn.cell i hi⟩
  have HR2 := Lib.hid r2
  have HT1 := Lib.hid t1
  have HRD := Lib.hid hrd
  have HCC := Lib.hid hcc
  have HT := Lib.hid ht
  have HTAB := Lib.hid tab
  clear hn t1 r2 hrd hcc hc ht tab hgl
  go_enter Tryd.func41, Tryd.ntmps41
  go_wp2_with fail
  refine (equal_any _ _ p noughts w1 (HRD.out w1 HT1.out) HR2.out hb noughts_ok).mono ?_
  rintro e w2 ⟨rfl, rfl⟩
  clear hmk hw1
  by_cases h0 : p = noughts
  · rw [decide_eq_true h0]
    have H0 := Lib.hid h0
    clear h0
    go_wp2_with fail
    go_ret
    exact .inl ⟨H0.out, rfl, HT1.out⟩
  · rw [decide_eq_false h0]
    have H0 := Lib.hid h0
    clear h0
    go_wp2_with fail
    refine (told_any w2 g p hp hb (HCC.out w2 HT1.out)).mono ?_
    rintro e w3 ⟨rfl, t3⟩
    have HT3 := Lib.hid (HT1.out.trans t3 (fun _ _ => id))
    clear t3
    have hok := toldR_ok hp hb
    have hsz := toldR_size p
    have hz := zero37
    have HGP := Lib.hid (show goodP rs p ↔ (p = sealB (refB (toldR p)) ∧ rightB (toldR p).name = true ∧ rs.findIdx? (nmB (toldR p).name) = none) from Iff.rfl)
    generalize hr : toldR p = r at *
    have HR := Lib.hid hr
    clear hr
    go_wp2_with (with_reducible (show wpList _ _ _ (Oper.mk none (.store 37 (.tmp 7) (.tmp 12)) _ _ _ _ :: _) _ _); refine still ?_)
    refine list_box w3 37 z37 r.vals (by rw [hok.vlen]; exact rf0_ok.vlen) r.vals_one (by rw [hok.vlen]; exact info37) rfl (.tmp 7) (.tmp 12) rfl rfl rfl (fun w4 hb4 => ?_)
    have HB4 := Lib.hid hb4
    have HT4 := Lib.hid (HT3.out.trans hb4.turn (fun _ _ => id))
    have c4 := hb4.cell 0 _ r.v0
    have HSZ4 := Lib.hid (show w3.heap.size < w4.heap.size by rw [hb4.size]; omega)
    clear hb4 hz
    go_wp2_with (with_reducible (show wpList _ _ _ (Oper.mk (some 14) (.load 37 (.tmp 7)) _ _ _ _ :: _) _ _); refine still ?_)
    refine wpList_load_mid rfl 37 (.tmp 7) rfl w3.heap.size 0 rfl r.vals _ HB4.out.range Tryd.underlying37 rfl (by rw [hok.vlen]; exact info37) ?_
    go_wp2_with fail
    refine (sealed_any r w4 hok hsz (HTAB.out.turn HT4.out)).mono ?_
    rintro e w5 ⟨Bs, rfl, hbs, hBs, t5⟩
    have HT5 := Lib.hid (HT4.out.trans t5 (fun _ _ => id))
    have HT45 := Lib.hid t5
    have r5 : Reads w5 (.slice (some ⟨Bs, 0, none⟩) 64 64) (sealB (refB r)) := .inr ⟨Bs, 0, 64, by rw [sealB_len], by rw [sealB_len]; omega, fun q hq => by rw [Nat.zero_add]; exact hbs.cell q hq⟩
    have HR5 := Lib.hid r5
    have c5 : w5.cell? ⟨w3.heap.size, 0, none⟩ = some (.string r.name) := (t5.cell (p := ⟨w3.heap.size, 0, none⟩) HSZ4.out id).trans c4
    clear hbs hBs t5 r5 c4
    go_wp2_with fail
    refine (equal_any _ _ p (sealB (refB r)) w5 (HRD.out w5 HT5.out) HR5.out hb (sealB_ok _ (refB_ok hok hsz))).mono ?_
    rintro e w6 ⟨rfl, rfl⟩
    by_cases h1 : p = sealB (refB r)
    · have H1 := Lib.hid h1
      rw [decide_eq_true h1]
      clear h1
      go_wp2_with fail
      refine (right_any r.name w6).mono ?_
      rintro e w7 ⟨rfl, t7⟩
      have HT7 := Lib.hid (HT5.out.trans t7 (fun _ _ => id))
      have HT47 := Lib.hid (HT45.out.trans t7 (fun _ _ => id))
      have c7 : w7.cell? ⟨w3.heap.size, 0, none⟩ = some (.string r.name) := (t7.cell (p := ⟨w3.heap.size, 0, none⟩) (Nat.lt_of_lt_of_le HSZ4.out HT45.out.size) id).trans c5
      clear t7 c5
      cases h2 : rightB r.name
      · have H2 := Lib.hid h2
        clear h2
        go_wp2_with fail
        go_ret
        exact .inr (.inl ⟨H0.out, (fun hg => by have h9 := (HGP.out.1 hg).2.1; rw [H2.out] at h9; cases h9), rfl, HT7.out⟩)
      · have H2 := Lib.hid h2
        clear h2
        go_wp2_with fail
        refine (find_all w7 T J rs r.name (HT.out.turn HT7.out id)).mono ?_
        rintro e w8 ⟨t8, hf⟩
        have HT8 := Lib.hid (HT7.out.trans t8 (fun _ _ => id))
        have HT48 := Lib.hid (HT47.out.trans t8 (fun _ _ => id))
        clear t8 c7
        rcases hf with ⟨k, hs, hk, hk12, rfl⟩ | ⟨hk, rfl⟩
        · have HK := Lib.hid hk
          have dk : decide ((0 : Int) ≤ (k : Int)) = true := decide_eq_true (by omega)
          clear hk hs
          go_wp2_with fail
          go_ret
          exact .inr (.inl ⟨H0.out, (fun hg => by have h9 := (HGP.out.1 hg).2.2; rw [HK.out] at h9; cases h9), rfl, HT8.out⟩)
        · have HK := Lib.hid (hk.resolve_left (right_ne H2.out))
          clear hk
          have hT8 := HT.out.turn HT8.out id
          have hth := hT8.there i hi
          have HT8b := Lib.hid hT8
          have gi : (0 : Int) ≤ (i : Int) ∧ (i : Int) < 12 := by omega
          have hr8 : w8.rangeAt w3.heap.size 0 r.vals := rangeAt_turn HB4.out.range HT48.out id
          have HR8 := Lib.hid hr8
          clear hT8 hr8
          go_wp2_with fail
          refine wp_region_held_drew (S := fun wq => True ∧ wq.rangeAt w3.heap.size 0 r.vals) (by kernel_rfl) ⟨trivial, HR8.out⟩ (fun hHeld => ?_)
          refine wpAnyH_take (i := 0) (v := .pointer (some ⟨T, 0, none⟩)) rfl (by kernel_rfl) (by kernel_rfl) (by kernel_rfl) (fun _ _ _ h => h) (Or.inl ⟨by rfl, ?yq1⟩) (by assumption) ?rq1
          case yq1 => (intro wq hSw; (try simp only [List.getElem_toArray, List.getElem_cons_zero, List.getElem_cons_succ]); go_simp; (try with_reducible rfl); all_goals (try omega))
          case rq1 =>
          try simp only [Act.put, List.setIfInBounds_toArray, List.set_cons_zero, List.set_cons_succ, List.getElem_toArray, List.getElem_cons_zero, List.getElem_cons_succ]
          refine wpAnyH_take (i := 1) (v := .int .i64 (i : Int)) rfl (by kernel_rfl) (by kernel_rfl) (by kernel_rfl) (fun _ _ _ h => h) (Or.inl ⟨by rfl, ?yq2⟩) (by assumption) ?rq2
          case yq2 => (intro wq hSw; (try simp only [List.getElem_toArray, List.getElem_cons_zero, List.getElem_cons_succ]); go_simp; (try with_reducible rfl); all_goals (try omega))
          case rq2 =>
          try simp only [Act.put, List.setIfInBounds_toArray, List.set_cons_zero, List.set_cons_succ, List.getElem_toArray, List.getElem_cons_zero, List.getElem_cons_succ]
          refine wpAnyH_take (i := 2) (v := .agg r.vals.toArray) rfl (by kernel_rfl) (by kernel_rfl) (by kernel_rfl) (fun _ _ _ h => h) (Or.inl ⟨by rfl, ?yq3⟩) (by assumption) ?rq3
          case yq3 => (intro wq hSw; exact exec_load_mid _ _ 37 _ rfl w3.heap.size 0 rfl r.vals _ _ hSw.2 Tryd.underlying37 rfl (by rw [hok.vlen]; exact info37))
          case rq3 =>
          try simp only [Act.put, List.setIfInBounds_toArray, List.set_cons_zero, List.set_cons_succ, List.getElem_toArray, List.getElem_cons_zero, List.getElem_cons_succ]
          refine wpAnyH_take (i := 3) (v := .pointer (some ⟨T, 0, none⟩)) rfl (by kernel_rfl) (by kernel_rfl) (by kernel_rfl) (fun _ _ _ h => h) (Or.inl ⟨by rfl, ?yq4⟩) (by assumption) ?rq4
          case yq4 => (intro wq hSw; (try simp only [List.getElem_toArray, List.getElem_cons_zero, List.getElem_cons_succ]); go_simp; (try with_reducible rfl); all_goals (try omega))
          case rq4 =>
          try simp only [Act.put, List.setIfInBounds_toArray, List.set_cons_zero, List.set_cons_succ, List.getElem_toArray, List.getElem_cons_zero, List.getElem_cons_succ]
          refine wpAnyH_take (i := 4) (v := .pointer (some ⟨T, 1, none⟩)) rfl (by kernel_rfl) (by kernel_rfl) (by kernel_rfl) (fun _ _ _ h => h) (Or.inl ⟨by rfl, ?yq5⟩) (by assumption) ?rq5
          case yq5 => (intro wq hSw; (try simp only [List.getElem_toArray, List.getElem_cons_zero, List.getElem_cons_succ]); go_simp; (try with_reducible rfl); all_goals (try omega))
          case rq5 =>
          try simp only [Act.put, List.setIfInBounds_toArray, List.set_cons_zero, List.set_cons_succ, List.getElem_toArray, List.getElem_cons_zero, List.getElem_cons_succ]
          refine wpAnyH_take (i := 5) (v := .pointer (some ⟨T, 1 + i * 34, none⟩)) rfl (by kernel_rfl) (by kernel_rfl) (by kernel_rfl) (fun _ _ _ h => h) (Or.inl ⟨by rfl, ?yq6⟩) (by assumption) ?rq6
          case yq6 => (intro wq hSw; (try simp only [List.getElem_toArray, List.getElem_cons_zero, List.getElem_cons_succ]); go_simp; (try with_reducible rfl); all_goals (try omega))
          case rq6 =>
          try simp only [Act.put, List.setIfInBounds_toArray, List.set_cons_zero, List.set_cons_succ, List.getElem_toArray, List.getElem_cons_zero, List.getElem_cons_succ]
          refine wpAnyH_ready (rs := [6]) (by kernel_rfl) (by simp) ?_
          refine AllReadyH.cons rfl (fun K hK => ?_) AllReadyH.nil
          rw [if_pos (by rfl)]
          refine wp_store_mid 37 (.tmp 36) (.tmp 33) rfl T (1 + i * 34) r.vals.toArray rfl rfl (by simpa [hok.vlen] using hth) (info37v hok) (all_oneCell_toArray r.vals_one) ?_
          have hT9 : Turn (fun k => k = T) w8.drew (w8.drew.setCells T (1 + i * 34) r.vals.toArray.toList) := turn_setCells T _ _ _
          have hne : ¬ w3.heap.size = T := by have := HT.out.lt; have := HT3.out.size; omega
          have hs9 : TbAt (w8.drew.setCells T (1 + i * 34) r.vals) T J (rs.set i r) := TbAt.set (w := w8.drew) (HT8b.out.turn (Turn.refl (fun _ => False) w8).drew id) i hi r hok
          refine hK.out _ _ ⟨trivial, rangeAt_turn (w := w8.drew) HR8.out hT9 (fun e => hne e)⟩ (fun _ => ?_)
          clear hK K
          try simp only [Act.put, List.setIfInBounds_toArray, List.set_cons_zero, List.set_cons_succ, List.getElem_toArray, List.getElem_cons_zero, List.getElem_cons_succ]
          refine wpAnyH_done (by kernel_rfl) ?_ _
          clear hHeld
          have HS9 := Lib.hid hs9
          have HT9 := Lib.hid (show Turn (fun k => k = T) w (w8.drew.setCells T (1 + i * 34) r.vals) from (HT8.out.drew.mono (fun _ _ h => h.elim)).trans hT9 (fun _ _ h => h))
          clear hs9 hT9
          go_wp2_with fail
          go_ret
          exact .inr (.inr ⟨H0.out, HGP.out.2 ⟨H1.out, H2.out, HK.out⟩, rfl, by rw [HR.out]; exact HS9.out, HT9.out⟩)
    · have H1 := Lib.hid h1
      rw [decide_eq_false h1]
      clear h1
      go_wp2_with fail
      go_ret
      exact .inr (.inl ⟨H0.out, fun hg => H1.out (HGP.out.1 hg).1, rfl, HT5.out⟩)
end Go.Proofs.YtnenkclihgeacaaDoor
/- Own contracts: a table is opened; a fresh one. No statement is proved here. -/
namespace Go.Proofs.YtnenkclihgeacaaDoor
set_option maxRecDepth 100000
open Go.RowKit
set_option linter.unusedVariables false
set_option linter.unusedSimpArgs false

def bl : List Rf := List.replicate 12 rf0
theorem bl_ok : ∀ o ∈ bl, o.Ok := fun o ho => by rw [List.eq_of_mem_replicate ho]; exact rf0_ok
theorem build69 (J : Nat) (w : World) : (Instr.build 69 #[(0, .pointer (some ⟨J, 0, none⟩))]).run Tryd.prog w = .ok (.agg (tbV J bl).toArray) w := by kernel_rfl
theorem exec_build69 (ev : Operand → Value) (op : Oper) (x : Operand) (ho : op.op = .build 69 #[(0, x)]) (J : Nat) (hx : ev x = .pointer (some ⟨J, 0, none⟩)) (w : World) : (execOp ev op).run Tryd.prog w = .ok (.value (.agg (tbV J bl).toArray)) w := by
  unfold execOp
  simp only [ho, List.map_toArray, List.map_cons, List.map_nil, hx, Sem.run_bind, Sem.run_pure, build69 J, Result.andThen_ok]
/-- What the first sectors make of a table. -/
def OpTo (C : List (List Int)) : Nat → List Rf → Prop
  | 0, rs => rs = bl
  | k + 1, rs => ∃ r0, OpTo C k r0 ∧ ((C.getD (48 + k) [] = noughts ∧ rs = r0) ∨ (C.getD (48 + k) [] ≠ noughts ∧ goodP r0 (C.getD (48 + k) []) ∧ rs = r0.set k (toldR (C.getD (48 + k) []))))
def OpBad (C : List (List Int)) : Prop := ∃ k r0, k < 12 ∧ OpTo C k r0 ∧ C.getD (48 + k) [] ≠ noughts ∧ ¬ goodP r0 (C.getD (48 + k) [])
def OpPost (w : World) (B : Nat) (F : Nat → Prop) (J D : Nat) (d : DiskM) (L : Nat) (C : List (List Int)) (n : Nat) (e : Ending) (w' : World) : Prop :=
  Turn (fun _ => False) w w' ∧ ((∃ T rs, OpTo C 12 rs ∧ e = .returned (.tuple #[.pointer (some ⟨T, 0, none⟩), .int .i64 0]) ∧ w.heap.size ≤ T ∧ LB w' B F T J D d L C n rs) ∨ (OpBad C ∧ e = .returned (.tuple #[.pointer none, .int .i64 7])))
set_option maxHeartbeats 8000000 in
theorem lopen_any (w : World) (B : Nat) (F : Nat → Prop) (J D : Nat) (d : DiskM) (L : Nat) (C : List (List Int)) (n : Nat) (hj : JC w F J D d L C n) (hlen : 60 < C.length ∧ C.length ≤ 1000) (tab : Tab w) (hB2 : 2 ≤ B) (hBF : ∀ k, F k → B ≤ k) (hBJ : B ≤ J) :
    Calls Tryd.prog 18 #[.pointer (some ⟨J, 0, none⟩)] w (OpPost w B F J D d L C n) := by
  have hsec := sectors_h w F J D d L _ n hj
  have hBw : B ≤ w.heap.size := Nat.le_trans hBJ (Nat.le_of_lt hj.jh.jat.lt)
  have HSEC := Lib.hid hsec
  have HJ := Lib.hid hj
  have HTAB := Lib.hid tab
  have HBF := Lib.hid hBF
  have HLEN := Lib.hid hlen
  obtain ⟨Y, hY⟩ : ∃ Y, C.length = Y := ⟨_, rfl⟩
  have hs2 := HSEC.out
  rw [hY] at hs2 hlen
  have HS2 := Lib.hid hs2
  have hd : decide ((Y : Int) ≤ 60) = false := by simp; omega
  clear hsec hj tab hBF hs2 HSEC hY
  go_enter Tryd.func18, Tryd.ntmps18
  go_wp2_with fail
  refine HS2.out.mono ?_
  rintro e w9 ⟨rfl, h9⟩
  rw [h9]
  clear h9 w9 HS2
  go_wp2_with (with_reducible (show wpList _ _ _ (Oper.mk (some 12) (.build 69 #[(0, .tmp 11)]) _ _ _ _ :: _) _ _); refine still ?_)
  refine list_exec rfl _ _ (exec_build69 _ _ (.tmp 11) rfl J rfl _) ?_
  have hbx := box_alloc w 69 (tbV J bl)
  have hs2 : TbAt (w.alloc (.cells (tbV J bl).toArray 69)) w.heap.size J bl := ⟨hbx.heap, by simp [bl], bl_ok⟩
  obtain ⟨w2, hw2⟩ : ∃ w2, w.alloc (.cells (tbV J bl).toArray 69) = w2 := ⟨_, rfl⟩
  rw [hw2] at hbx hs2
  obtain ⟨cs, hcs⟩ : ∃ cs, (tbV J bl).toArray = cs := ⟨_, rfl⟩
  rw [hcs] at hw2 ⊢
  obtain ⟨T, hT⟩ : ∃ T, w.heap.size = T := ⟨_, rfl⟩
  have HT0 := Lib.hid hbx.turn
  rw [hT] at hs2
  have HS2 := Lib.hid hs2
  have HT := Lib.hid hT
  clear hbx hs2 hcs
  have hread : ∀ wr (k : Nat), Turn (fun _ => False) w wr → k < 12 → Calls Tryd.prog 40 #[.pointer (some ⟨J, 0, none⟩), .int .i64 (48 + (k : Int))] wr fun e w' => ∃ B, e = .returned (.tuple #[.slice (some ⟨B, 0, none⟩) 64 64, .int .i64 0]) ∧ (∀ i, i < 64 → w'.cell? ⟨B, i, none⟩ = some (.int .u8 ((C.getD (48 + k) []).getD i 0))) ∧ Turn (fun _ => False) wr w' := fun wr k t hk => by
    have hkC : 48 + k < C.length := by have := HLEN.out.1; omega
    have hr := read_h wr F J D d L C n (48 + k) (HJ.out.turn0 t) hkC
    rw [show ((48 + k : Nat) : Int) = 48 + (k : Int) by omega] at hr
    refine hr.mono ?_
    rintro e w' ⟨B, rfl, h1, h2, h3, h4⟩
    refine ⟨B, rfl, fun i hi => ?_, h4⟩
    have hl := (HJ.out.told (48 + k) hkC).2.1
    have := h3 i (.int .u8 ((C.getD (48 + k) []).getD i 0)) (by
      unfold secV
      rw [List.getElem?_map]
      simp only [List.getD_eq_getElem?_getD] at hl ⊢
      rw [List.getElem?_eq_getElem (by omega)]
      simp)
    rwa [Nat.zero_add] at this
  have HRD := Lib.hid hread
  clear hread
  go_wp2_with fail
  go_loopw [2, 3, 14] (fun pv ev iv wr => pv = .pointer none ∧ ev = .int .i64 0 ∧ ∃ (k : Nat) (rs : List Rf), k ≤ 12 ∧ iv = .int .i64 (k : Int) ∧ OpTo C k rs ∧ TbAt wr T J rs ∧ Turn (fun _ => False) w wr) (fun _ _ iv _ => (12 - intOf iv).toNat)
  case atStart => exact ⟨rfl, rfl, 0, bl, by omega, rfl, rfl, HS2.out, HT0.out⟩
  case round =>
    obtain ⟨rfl, rfl, k, rs, hk, rfl, hop, htb, hTr⟩ := hrel
    have HOP := Lib.hid hop
    have HTB := Lib.hid htb
    have HTr := Lib.hid hTr
    clear hTr hop htb
    by_cases hlt : k < 12
    · have hdk : decide ((k : Int) < 12) = true := by simp; omega
      have hwr : IntKind.i64.wrap (48 + (k : Int)) = 48 + (k : Int) := by rw [IntKind.wrap_i64]; omega
      have hkC : 48 + k < C.length := by have := HLEN.out.1; omega
      go_wp2_with fail
      refine (HRD.out wr k HTr.out hlt).mono ?_
      rintro e w4 ⟨Bq, rfl, hrd, t4⟩
      have HRr := Lib.hid hrd
      have HT4 := Lib.hid (HTr.out.trans t4 (fun _ _ => id))
      have HT4b := Lib.hid t4
      clear hrd t4
      go_wp2_with fail
      refine (admit_any w4 T J Bq rs k (C.getD (48 + k) []) (HTB.out.turn HT4b.out id) hlt (HTAB.out.turn HT4.out) (HJ.out.told _ hkC).2.1 (HJ.out.told _ hkC).2.2 HRr.out).mono ?_
      intro e w5 had
      rcases had with ⟨h1, rfl, t5⟩ | ⟨h1, h2, rfl, t5⟩ | ⟨h1, h2, rfl, htb5, t5⟩
      · have H1 := Lib.hid h1
        have HT5 := Lib.hid (HT4.out.trans t5 (fun _ _ => id))
        have HTB5 := Lib.hid ((HTB.out.turn HT4b.out id).turn t5 id)
        clear h1 t5
        go_wp2_with fail
        go_roundw
        case rel => exact ⟨rfl, rfl, k + 1, rs, by omega, by go_num, ⟨rs, HOP.out, .inl ⟨H1.out, rfl⟩⟩, HTB5.out, HT5.out⟩
        case measure => simp [intOf]; omega
      · have H1 := Lib.hid h1
        have H2 := Lib.hid h2
        have HT5 := Lib.hid (HT4.out.trans t5 (fun _ _ => id))
        clear h1 h2 t5
        go_wp2_with fail
        refine bodyPost_ret (results_tmp2 (t := 2) (u := 3) (by kernel_rfl) _ _ _) rfl ?_
        exact ⟨HT5.out, .inr ⟨⟨k, rs, hlt, HOP.out, H1.out, H2.out⟩, rfl⟩⟩
      · have H1 := Lib.hid h1
        have H2 := Lib.hid h2
        have HT5 := Lib.hid (HT4.out.trans t5 (fun q hq e => by have := HT.out; omega))
        have HTB5 := Lib.hid htb5
        clear h1 h2 t5 htb5
        go_wp2_with fail
        go_roundw
        case rel => exact ⟨rfl, rfl, k + 1, _, by omega, by go_num, ⟨rs, HOP.out, .inr ⟨H1.out, H2.out, rfl⟩⟩, HTB5.out, HT5.out⟩
        case measure => simp [intOf]; omega
    · obtain rfl : k = 12 := by omega
      go_wp2_with fail
      refine bodyPost_ret (results_tmp2 (t := 2) (u := 3) (by kernel_rfl) _ _ _) rfl ?_
      have hlt1 := HJ.out.jh.dh.2
      have hJl := HJ.out.jh.jat.lt
      have e9 := HT.out
      refine ⟨HTr.out, .inl ⟨T, rs, HOP.out, rfl, by omega, ⟨HTB.out, HJ.out.turn0 HTr.out, HLEN.out, HTAB.out.turn HTr.out, hB2, fun q hq => ?_, fun hF => by have := hlt1 _ hF; omega, by omega⟩⟩⟩
      rcases hq with hq | rfl | rfl
      · exact HBF.out q hq
      · exact hBJ
      · omega
theorem opTo_blank (C : List (List Int)) (h : ∀ i, i < 12 → C.getD (48 + i) [] = noughts) : ∀ k rs, k ≤ 12 → OpTo C k rs → rs = bl
  | 0, rs, _, ho => ho
  | k + 1, rs, hk, ho => by
    obtain ⟨r0, h0, ⟨_, rfl⟩ | ⟨h1, _⟩⟩ := ho
    · exact opTo_blank C h k rs (by omega) h0
    · exact absurd (h k (by omega)) h1
theorem opBad_blank (C : List (List Int)) (h : ∀ i, i < 12 → C.getD (48 + i) [] = noughts) : ¬ OpBad C := fun ⟨k, _, hk, _, h1, _⟩ => h1 (h k hk)
def blankC : List (List Int) := List.replicate 70 noughts
set_option maxHeartbeats 4000000 in
theorem fresh_any (w : World) (n : Nat) (tab : Tab w) (hn : n ≤ 900000) :
    Calls Tryd.prog 12 #[] w fun e w' => ∃ D T J F d L, e = .returned (.tuple #[.pointer (some ⟨D, 0, none⟩), .pointer (some ⟨T, 0, none⟩), .bool true]) ∧ LB w' w.heap.size F T J D d L blankC n bl ∧ d.armed = false ∧ L = 0 ∧ Turn (fun _ => False) w w' := by
  have h2 : 2 ≤ w.heap.size := tab.1
  have HTB := Lib.hid tab
  have hnew := new_h w 119 (n + 100) (by omega) (by omega)
  rw [show 119 - 49 = 70 by omega] at hnew
  have HN := Lib.hid hnew
  clear tab hnew
  go_enter Tryd.func12, Tryd.ntmps12
  go_wp2_with fail
  refine HN.out.mono ?_
  rintro e w1 ⟨D, F, rfl, hd, hF, t1⟩
  have HD := Lib.hid hd
  have HF := Lib.hid hF
  have HT1 := Lib.hid t1
  clear hd hF t1
  go_wp2_with fail
  refine (open_h w1 F D (newM 119) 0 _ n HD.out rfl (by omega)).mono ?_
  rintro e w2 ⟨J, F2, d2, L2, rfl, hj, ha, hJ, hst, hL⟩
  have HJ := Lib.hid hj
  have HST := Lib.hid hst
  have hs1 := HT1.out.size
  have HB2 := Lib.hid (show ∀ k, F2 k → w.heap.size ≤ k from fun k hk => by
    rcases hst.grown k hk with h | h
    · exact HF.out k h
    · omega)
  have t2 : Turn (fun _ => False) w w2 := HT1.out.trans hst.turn (fun k hk e => by have := HF.out k e; omega)
  have HT2 := Lib.hid t2
  clear hj hst t2
  go_wp2_with fail
  refine (lopen_any w2 w.heap.size F2 J D d2 L2 blankC n HJ.out (by simp [blankC]) (HTB.out.turn HT2.out) h2 HB2.out (by omega)).mono ?_
  rintro e w3 ⟨t3, ⟨T, rs, hop, rfl, hTl, hlb⟩ | ⟨hbad, _⟩⟩
  · have hrs := opTo_blank blankC (fun i hi => by unfold blankC; rw [List.getD_eq_getElem?_getD, List.getElem?_replicate, if_pos (by omega)]; rfl) 12 rs (by omega) hop
    subst hrs
    have HLB := Lib.hid hlb
    have HT3 := Lib.hid (HT2.out.trans t3 (fun _ _ => id))
    clear hlb t3 hop
    go_wp2_with fail
    have hr : Tryd.f12.results = #[.tmp 0, .tmp 1, .tmp 2] := by kernel_rfl
    refine bodyPost_ret (v := .tuple #[.pointer (some ⟨D, 0, none⟩), .pointer (some ⟨T, 0, none⟩), .bool true]) (by simp [results, hr]) rfl ?_
    exact ⟨D, T, J, F2, d2, L2, rfl, HLB.out, ha, by omega, HT3.out⟩
  · exact absurd hbad (opBad_blank blankC (fun i hi => by unfold blankC; rw [List.getD_eq_getElem?_getD, List.getElem?_replicate, if_pos (by omega)]; rfl))
end Go.Proofs.YtnenkclihgeacaaDoor
/- Own contracts: rows of refs of one's own. No statement is proved here. -/
namespace Go.Proofs.YtnenkclihgeacaaDoor
set_option maxRecDepth 100000
open Go.RowKit
set_option linter.unusedVariables false
set_option linter.unusedSimpArgs false

/-- A block of refs of one's own. -/
structure RB (w : World) (g : Nat) (rs : List Rf) (ex : List Value) : Prop where
  at_ : w.heap[g]? = some (.cells (rfsV rs ++ ex).toArray 37 (0, 0))
  ok : ∀ x ∈ rs, x.Ok
section
variable {w w' : World} {g : Nat} {rs : List Rf} {ex : List Value} {G : Nat → Prop}
theorem RB.lt (h : RB w g rs ex) : g < w.heap.size := (Array.getElem?_eq_some_iff.1 h.at_).1
theorem RB.turn (h : RB w g rs ex) (t : Turn G w w') (hn : ¬ G g) : RB w' g rs ex := ⟨(t.block g h.lt hn).trans h.at_, h.ok⟩
theorem RB.vlen (h : RB w g rs ex) : (rfsV rs).length = 34 * rs.length := rfsV_len h.ok
theorem RB.row (h : RB w g rs ex) : RowAt w g 0 rs := by
  refine ⟨fun k hk j v hj => ?_, h.ok, h.lt⟩
  have hv := h.vlen
  rw [cell_of_row w g _ _ 37 (0, 0) h.at_]
  rw [← rfsV_part h.ok k hk, List.getElem?_take] at hj
  split at hj
  · rename_i h34
    rw [List.getElem?_drop] at hj
    have hl := (List.getElem?_eq_some_iff.1 hj).1
    simp only [List.getElem?_toArray]
    rw [List.getElem?_append_left (by omega), Nat.zero_add]
    exact hj
  · cases hj
theorem RB.there (h : RB w g rs ex) (k : Nat) (hk : k < rs.length) : w.there g (k * 34) 34 := fun j hj => by
  have hv := h.vlen
  refine ⟨?_, frozen_of_row w g _ _ 37 h.at_⟩
  rw [cell_of_row w g _ _ 37 (0, 0) h.at_]
  have : k * 34 + j < (rfsV rs ++ ex).length := by rw [List.length_append]; omega
  rw [List.getElem?_toArray, List.getElem?_eq_getElem this]
  rfl
theorem RB.set (h : RB w g rs ex) (k : Nat) (hk : k < rs.length) (o : Rf) (ho : o.Ok) : RB (w.setCells g (k * 34) o.vals) g (rs.set k o) ex := by
  have hv := h.vlen
  have := heap_setCells g 37 o.vals (k * 34) w (rfsV rs ++ ex) h.at_ (by rw [List.length_append, ho.vlen]; omega)
  refine ⟨?_, fun x hx => ?_⟩
  · rw [this]
    congr 2
    apply congrArg List.toArray
    rw [rfsV_set h.ok o ho k hk, ho.vlen, List.take_append_of_le_length (by omega), List.drop_append_of_le_length (by omega)]
    simp
  · rcases List.mem_or_eq_of_mem_set hx with h1 | h1
    · exact h.ok x h1
    · subst h1; exact ho
theorem RB.get (h : RB w g rs ex) (k : Nat) (hk : k < rs.length) : (rs.getD k rf0).Ok := h.row.get k hk
end
theorem rfsV_app (a b : List Rf) : rfsV (a ++ b) = rfsV a ++ rfsV b := by simp [rfsV]
theorem rfsV_one (rs : List Rf) : ∀ v ∈ rfsV rs, v.oneCell' = true := fun v hv => by
  simp only [rfsV, List.mem_flatMap] at hv
  obtain ⟨o, _, h⟩ := hv
  exact o.vals_one v h
theorem info37p : (Tryd.prog.info? 37).map (fun i => (i.zero, i.size, i.bytes)) = some (some (.agg z37.toArray), 34, 56) := by kernel_rfl
theorem zeros37 (n : Nat) : (Builtin.zeroCells z37.toArray n).toList = rfsV (List.replicate n rf0) := by
  have hok : ∀ o ∈ List.replicate n rf0, o.Ok := fun o ho => by rw [List.eq_of_mem_replicate ho]; exact rf0_ok
  have hl := rfsV_len hok
  rw [List.length_replicate] at hl
  have hz : z37.length = 34 := rf0_ok.vlen
  apply List.ext_getElem?
  intro k
  by_cases h : k < n * 34
  · have hp := rfsV_part hok (k / 34) (by rw [List.length_replicate]; omega)
    have hg : (List.replicate n rf0).getD (k / 34) rf0 = rf0 := by rw [List.getD_eq_getElem?_getD, List.getElem?_replicate, if_pos (by omega)]; rfl
    rw [hg] at hp
    have e1 : (rfsV (List.replicate n rf0))[k]? = rf0.vals[k % 34]? := by
      rw [← hp, List.getElem?_take, if_pos (by omega), List.getElem?_drop]
      congr 1
      omega
    rw [e1]
    simp only [Builtin.zeroCells]
    have h34 : k % 34 < 34 := by omega
    have h9 : rf0.vals[k % 34]? = some (rf0.vals[k % 34]'(by rw [rf0_ok.vlen]; exact h34)) := List.getElem?_eq_getElem _
    simp [hz, h]
    simp [z37, h9]
  · have e2 : (rfsV (List.replicate n rf0))[k]? = none := List.getElem?_eq_none (by omega)
    rw [e2]
    simp [Builtin.zeroCells, hz]
    omega
set_option maxHeartbeats 1600000 in
/-- The end of a row of refs is cleared. -/
theorem clear_rows (w : World) (g i m nc : Nat) (rs : List Rf) (ex : List Value) (ty : TypeId) (h : RB w g rs ex) (hi : i + m = rs.length) :
    ∃ w', (Builtin.clear_ #[29] ty #[.slice (some ⟨g, i * 34, none⟩) m nc]).run Tryd.prog w = .ok (.tuple #[]) w' ∧ RB w' g (rs.take i ++ List.replicate m rf0) ex ∧ Turn (fun k => k = g) w w' := by
  have hu : Tryd.prog.underlying 29 = some (.slice 37) := Tryd.underlying29
  have hv := h.vlen
  by_cases h0 : m = 0
  · subst h0
    refine ⟨w, by simp [Builtin.clear_, run_underlying hu], ?_, Turn.refl _ _⟩
    rw [List.take_of_length_le (by omega), List.replicate_zero, List.append_nil]
    exact h
  · have hok : ∀ o ∈ List.replicate m rf0, o.Ok := fun o ho => by rw [List.eq_of_mem_replicate ho]; exact rf0_ok
    have hl := rfsV_len hok
    rw [List.length_replicate] at hl
    have hst := run_storeCells_at Tryd.prog g (i * 34) 37 (rfsV (List.replicate m rf0)) 0 (rfsV rs ++ ex).toArray w h.at_ (by rw [hl]; simp [hv]; omega) (rfsV_one _)
    simp only [Nat.add_zero] at hst
    have hz : (zeroValue 37).run Tryd.prog w = .ok (.agg z37.toArray) w := zero37 w
    obtain ⟨q, rfl⟩ : ∃ q, m = q + 1 := ⟨m - 1, by omega⟩
    refine ⟨_, by
      simp [Builtin.clear_, run_underlying hu, hz, Value.cells, zeros37]
      rw [hst]
      rfl, ⟨?_, fun x hx => ?_⟩, turn_setRow _ _ _⟩
    · rw [setRow_heap _ _ _ _ _ _ h.at_]
      congr 2
      apply congrArg List.toArray
      rw [rfsV_app, hl]
      show List.take (i * 34) (rfsV rs ++ ex) ++ _ ++ List.drop (i * 34 + _) (rfsV rs ++ ex) = _
      have e1 : List.take (i * 34) (rfsV rs ++ ex) = rfsV (rs.take i) := by
        rw [List.take_append_of_le_length (by omega)]
        have h2 : rfsV rs = rfsV (rs.take i) ++ rfsV (rs.drop i) := by rw [← rfsV_app, List.take_append_drop]
        have h3 : (rfsV (rs.take i)).length = 34 * i := by rw [rfsV_len (fun x hx => h.ok x (List.mem_of_mem_take hx))]; simp; omega
        rw [h2, List.take_append_of_le_length (by omega), List.take_of_length_le (by omega)]
      have e2 : List.drop (i * 34 + 34 * (q + 1)) (rfsV rs ++ ex) = ex := by
        rw [List.drop_append, List.drop_of_length_le (by omega), List.nil_append, hv, show i * 34 + 34 * (q + 1) - 34 * rs.length = 0 by omega, List.drop_zero]
      rw [e1, e2]
    · rcases List.mem_append.1 hx with hx | hx
      · exact h.ok x (List.mem_of_mem_take hx)
      · exact hok x hx
set_option maxHeartbeats 1600000 in
theorem clone46_any (w : World) (T J : Nat) (rs : List Rf) (ht : TbAt w T J rs) :
    Calls Tryd.prog 46 #[.slice (some ⟨T, 1, none⟩) 12 12] w fun e w' => ∃ g c ex, e = .returned (.slice (some ⟨g, 0, none⟩) 12 c) ∧ 12 ≤ c ∧ RB w' g rs ex ∧ w.heap.size ≤ g ∧ Turn (fun _ => False) w w' := by
  obtain ⟨i0, hi, hz0, hz1, hz2⟩ := info_parts info37p
  have hnil : ∀ w, (binOp .eql 29 (.slice (some ⟨T, 1, none⟩) 12 12) (.slice none 0 0)).run Tryd.prog w = .ok (.bool false) w := fun w => Lib.run_eql_slice_nil (P := Tryd.prog) w 29 37 _ _ _ 0 0 Tryd.underlying29
  have T0 := (Turn.refl (fun _ => False) w).alloc (.cells #[] 37)
  have hr0 := (ht.turn T0 id).range
  have hvl := ht.vlen
  have HN := Lib.hid hr0
  have HV := Lib.hid hvl
  have HOK := Lib.hid ht.ok
  have HLN := Lib.hid ht.len
  clear ht hr0 hvl
  have ho := World.ownsRow_lit (base := w.heap.size) (e := 37) (size := 34) w #[] 0 (Nat.le_refl _) (by unfold maxLen; omega) (by simp)
  go_enter Tryd.func46, Tryd.ntmps46
  go_wp2_with (at_builtin; refine wpList_append_where _ rfl (.tmp 5) (.tmp 6) 29 rfl w.heap.size 37 i0 _ 34 56 Tryd.underlying29 hi hz0 hz1 hz2 (by simp [Value.cells, z37, rf0_ok.vlen]) (by decide) _ 0 [] rfl ho ⟨T, 1, none⟩ 12 12 (rfsV rs) rfl (by rw [HV.out]) (fun j u hu => by rw [Addr.add_mid]; exact HN.out j u hu) (rfsV_one rs) ?c3 ?c4 ?c5 ?_)
  case c3 => unfold maxLen; omega
  intro v' w1 hown hgrow hfresh hiff
  have hT : Turn (fun _ => False) w w1 := T0.grown hgrow (fun k h hk => by simp [Value.ownBlock] at h; omega)
  try simp only [Nat.zero_add, List.nil_append] at hown
  obtain ⟨g, c, cur, rfl, hg1, hg2, hg3, hg4, hg5, hg6⟩ : ∃ g cap cur, v' = .slice (some ⟨g, 0, none⟩) 12 cap ∧ w.heap.size ≤ g ∧ w1.heap[g]? = some (.cells cur 37 (0, 0)) ∧ 12 ≤ cap ∧ cap ≤ maxLen ∧ cur.size = cap * 34 ∧ cur.toList.take (12 * 34) = rfsV rs := by
    rcases hown.2 with ⟨h, _⟩ | h
    · exact absurd h hiff
    · exact h
  have hrb : RB w1 g rs (cur.toList.drop (12 * 34)) := ⟨by rw [hg2, ← hg6, List.take_append_drop], HOK.out⟩
  have HRB := Lib.hid hrb
  have HT := Lib.hid hT
  clear hgrow hfresh ho hiff hown hg2 hg5 hg6 hrb hT hnil
  go_wp2
  go_ret
  exact ⟨g, c, _, rfl, hg3, HRB.out, hg1, HT.out⟩
end Go.Proofs.YtnenkclihgeacaaDoor
/- Own contracts: refs without a name are taken out. No statement is proved here. -/
namespace Go.Proofs.YtnenkclihgeacaaDoor
set_option maxRecDepth 100000
open Go.RowKit
set_option linter.unusedVariables false
set_option linter.unusedSimpArgs false

def hasN (o : Rf) : Bool := !decide (o.name = ByteArray.empty)
theorem filter_succ {rs : List Rf} {p : Rf → Bool} (b : Nat) (hb : b < rs.length) : (rs.take (b + 1)).filter p = (rs.take b).filter p ++ (if p (rs.getD b rf0) then [rs.getD b rf0] else []) := by
  rw [List.take_succ_eq_append_getElem hb, List.filter_append]
  congr 1
  rw [show rs.getD b rf0 = rs[b] by simp [List.getD, hb]]
  by_cases h : p rs[b] <;> simp [h]
theorem filter_all {rs : List Rf} {p : Rf → Bool} : ∀ k, k ≤ rs.length → (∀ j, j < k → p (rs.getD j rf0) = true) → (rs.take k).filter p = rs.take k
  | 0, _, _ => by simp
  | k + 1, hk, h => by
    rw [filter_succ k (by omega), filter_all k (by omega) (fun j hj => h j (by omega)), h k (by omega), if_pos rfl, List.take_succ_eq_append_getElem (by omega), show rs.getD k rf0 = rs[k]'(by omega) by simp [List.getD, show k < rs.length by omega]]
def DlPost (w : World) (g c : Nat) (rs : List Rf) (ex : List Value) (e : Ending) (w' : World) : Prop :=
  ∃ rs', e = .returned (.slice (some ⟨g, 0, none⟩) (rs.filter hasN).length c) ∧ rs'.length = 12 ∧ rs'.take (rs.filter hasN).length = rs.filter hasN ∧ RB w' g rs' ex ∧ Turn (fun k => k = g) w w'
set_option maxHeartbeats 8000000 in
theorem delete_any (w : World) (g c : Nat) (rs : List Rf) (ex : List Value) (h : RB w g rs ex) (hl : rs.length = 12) (hc : 12 ≤ c) :
    Calls Tryd.prog 45 #[.slice (some ⟨g, 0, none⟩) 12 c, .func (.func 47) #[] #[]] w (DlPost w g c rs ex) := by
  have HRB := Lib.hid h
  have HL := Lib.hid hl
  clear h hl
  go_enter Tryd.func45, Tryd.ntmps45
  go_wp2_with fail
  refine (idxf47 w g 0 12 rs HRB.out.row HL.out (by omega) c).mono ?_
  rintro e w1 ⟨t1, hf⟩
  have HT1 := Lib.hid t1
  have HRB1 := Lib.hid (HRB.out.turn t1 id)
  clear t1
  rcases hf with ⟨a0, ha0, hp0, hq0, rfl⟩ | ⟨hq0, rfl⟩
  · have ha : a0 < 12 := by rw [← HL.out]; exact ha0
    have hst : rs.take a0 = (rs.take (a0 + 1)).filter hasN := by
      rw [filter_succ a0 ha0, filter_all a0 (Nat.le_of_lt ha0) (fun j hj => by have h9 := hq0 j hj; unfold hasN; simp only at h9; rw [h9]; rfl)]
      have : hasN (rs.getD a0 rf0) = false := by unfold hasN; simp only at hp0; rw [hp0]; rfl
      rw [this]
      simp
    have HST := Lib.hid hst
    have hne : ((a0 : Int) == -1) = false := by rw [beq_eq_false_iff_ne]; omega
    have hw1 : IntKind.i64.wrap ((a0 : Int) + 1) = (a0 : Int) + 1 := by rw [IntKind.wrap_i64]; omega
    clear hp0 hq0 hst
    go_wp2_with fail
    clear hne hw1
    go_loopw [5, 6] (fun iv jv wr => ∃ (a b : Nat) (rs' : List Rf), a < b ∧ b ≤ 12 ∧ iv = .int .i64 (a : Int) ∧ jv = .int .i64 (b : Int) ∧ rs'.length = 12 ∧ rs'.take a = (rs.take b).filter hasN ∧ rs'.drop b = rs.drop b ∧ RB wr g rs' ex ∧ Turn (fun k => k = g) w wr) (fun _ jv _ => 12 - (intOf jv).toNat)
    case atStart => exact ⟨a0, a0 + 1, rs, by omega, by omega, rfl, by go_num, HL.out, HST.out, rfl, HRB1.out, HT1.out.mono (fun _ _ h => h.elim)⟩
    case round =>
      obtain ⟨a, b, rs', hab, hb12, rfl, rfl, hl', htk, hdr, hrb, htr⟩ := hrel
      have HL' := Lib.hid hl'
      have HTK := Lib.hid htk
      have HDR := Lib.hid hdr
      have HRBr := Lib.hid hrb
      have HTr := Lib.hid htr
      clear hl' htk hdr hrb htr
      by_cases hlt : b < 12
      · have hd1 : decide ((b : Int) < 12) = true := decide_eq_true (by omega)
        have gi : (0 : Int) ≤ (b : Int) ∧ (b : Int) < 12 := by omega
        have ga : (0 : Int) ≤ (a : Int) ∧ (a : Int) < 12 := by omega
        have hbl : b < rs'.length := by rw [HL'.out]; exact hlt
        have hbe : rs'.getD b rf0 = rs.getD b rf0 := by
          have e1 : rs'.getD b rf0 = (rs'.drop b).getD 0 rf0 := by simp [List.getD]
          have e2 : rs.getD b rf0 = (rs.drop b).getD 0 rf0 := by simp [List.getD]
          rw [e1, e2, HDR.out]
        have hok := HRBr.out.get b hbl
        have hsl := HRBr.out.row.at_ b hbl
        rw [Nat.zero_add] at hsl
        have hfs := filter_succ (p := hasN) b (show b < rs.length by rw [HL.out]; exact hlt)
        rw [hbe] at hok hsl
        have hz := zero37
        have hwa : IntKind.i64.wrap ((a : Int) + 1) = (a : Int) + 1 := by rw [IntKind.wrap_i64]; omega
        have hwb : IntKind.i64.wrap ((b : Int) + 1) = (b : Int) + 1 := by rw [IntKind.wrap_i64]; omega
        have HFS := Lib.hid hfs
        clear hfs hbe
        generalize hx : rs.getD b rf0 = x at *
        clear hx
        go_wp2_with (with_reducible (show wpList _ _ _ (Oper.mk (some 25) (.load 37 (.tmp 24)) _ _ _ _ :: _) _ _); refine still ?_)
        refine wpList_load_mid rfl 37 (.tmp 24) rfl g (b * 34) (by first | rfl | simp) x.vals _ hsl Tryd.underlying37 rfl (by rw [hok.vlen]; exact info37) ?_
        go_wp2_with (with_reducible (show wpList _ _ _ (Oper.mk none (.store 37 (.tmp 7) (.tmp 25)) _ _ _ _ :: _) _ _); refine still ?_)
        refine list_box wr 37 z37 x.vals (by rw [hok.vlen]; exact rf0_ok.vlen) x.vals_one (by rw [hok.vlen]; exact info37) rfl (.tmp 7) (.tmp 25) rfl rfl rfl (fun w3 hb3 => ?_)
        have HB3 := Lib.hid hb3
        clear hb3 hz hsl
        go_wp2_with (with_reducible (show wpList _ _ _ (Oper.mk (some 27) (.load 37 (.tmp 7)) _ _ _ _ :: _) _ _); refine still ?_)
        refine wpList_load_mid rfl 37 (.tmp 7) rfl wr.heap.size 0 rfl x.vals _ HB3.out.range Tryd.underlying37 rfl (by rw [hok.vlen]; exact info37) ?_
        go_wp2_with fail
        refine (clos47 x w3).mono ?_
        rintro e w4 ⟨rfl, t4⟩
        have HR4 := Lib.hid (show w4.rangeAt wr.heap.size 0 x.vals from rangeAt_turn HB3.out.range t4 id)
        have HRB4 := Lib.hid ((HRBr.out.turn HB3.out.turn id).turn t4 id)
        have HT4 := Lib.hid ((HTr.out.trans (HB3.out.turn.mono (fun _ _ h => h.elim)) (fun _ _ h => h)).trans (t4.mono (fun _ _ h => h.elim)) (fun _ _ h => h))
        clear t4
        by_cases he : x.name = ByteArray.empty
        · rw [decide_eq_true he]
          have HH := Lib.hid (show hasN x = false by unfold hasN; rw [decide_eq_true he]; rfl)
          clear he
          go_wp2_with fail
          go_roundw
          case rel =>
            refine ⟨a, b + 1, rs', by omega, by omega, rfl, by go_num, HL'.out, ?_, ?_, HRB4.out, HT4.out⟩
            · rw [HFS.out, HH.out, HTK.out]; simp
            · have := congrArg (List.drop 1) HDR.out
              simpa [List.drop_drop] using this
          case measure => simp [intOf]; omega
        · rw [decide_eq_false he]
          have HH := Lib.hid (show hasN x = true by unfold hasN; rw [decide_eq_false he]; rfl)
          clear he
          go_wp2_with (with_reducible (show wpList _ _ _ (Oper.mk (some 32) (.load 37 (.tmp 7)) _ _ _ _ :: _) _ _); refine still ?_)
          refine wpList_load_mid rfl 37 (.tmp 7) rfl wr.heap.size 0 rfl x.vals _ HR4.out Tryd.underlying37 rfl (by rw [hok.vlen]; exact info37) ?_
          go_wp2_with (with_reducible (show wpList _ _ _ (Oper.mk none (.store 37 (.tmp 33) (.tmp 32)) _ _ _ _ :: _) _ _); refine still ?_)
          have hal : a < rs'.length := by rw [HL'.out]; omega
          refine wpList_store_mid rfl 37 (.tmp 33) (.tmp 32) rfl g (a * 34) x.vals.toArray (by first | rfl | simp) rfl (by simpa [hok.vlen] using HRB4.out.there a hal) (info37v hok) (all_oneCell_toArray x.vals_one) ?_
          have hset := HRB4.out.set a hal x hok
          have tS := turn_setCells g x.vals (a * 34) w4
          rw [show x.vals.toArray.toList = x.vals from rfl]
          generalize w4.setCells g (a * 34) x.vals = w5 at *
          have HS := Lib.hid hset
          have HT5 := Lib.hid (HT4.out.trans tS (fun _ _ h => h))
          clear hset tS
          go_wp2_with fail
          go_roundw
          case rel =>
            refine ⟨a + 1, b + 1, rs'.set a x, by omega, by omega, by go_num, by go_num, by simpa using HL'.out, ?_, ?_, HS.out, HT5.out⟩
            · rw [HFS.out, HH.out, if_pos rfl, ← HTK.out, List.take_succ_eq_append_getElem (by simpa using hal), List.take_set_of_le (Nat.le_refl a)]
              simp
            · rw [List.drop_set_of_lt (by omega)]
              have := congrArg (List.drop 1) HDR.out
              simpa [List.drop_drop] using this
          case measure => simp [intOf]; omega
      · obtain rfl : b = 12 := by omega
        have hfl : (rs.take 12).filter hasN = rs.filter hasN := by rw [List.take_of_length_le (by rw [HL.out]; omega)]
        have hla : (rs.filter hasN).length = a := by
          rw [← hfl, ← HTK.out, List.length_take, HL'.out]
          omega
        have ga : (0 : Int) ≤ (a : Int) ∧ (a : Int) ≤ 12 := by omega
        have ga2 : (0 : Int) ≤ (a : Int) ∧ (a : Int) ≤ (c : Int) := by omega
        obtain ⟨w6, hcl, hrb6, t6⟩ := clear_rows wr g a (12 - a) (c - a) rs' ex 0 HRBr.out (by rw [HL'.out]; omega)
        have HRB6 := Lib.hid hrb6
        have HT6 := Lib.hid (HTr.out.trans t6 (fun _ _ h => h))
        have HLA := Lib.hid hla
        have HFL := Lib.hid hfl
        clear hla hrb6 t6 hfl
        go_wp2_with fail
        go_ret
        refine ⟨_, by rw [HLA.out]; rfl, ?_, ?_, HRB6.out, HT6.out⟩
        · have := HL'.out
          simp
          omega
        · rw [HLA.out, List.take_append_of_le_length (by have := HL'.out; simp; omega), List.take_take, Nat.min_self, HTK.out, HFL.out]
  · have hall : rs.filter hasN = rs := by
      have := filter_all (p := hasN) rs.length (Nat.le_refl _) (fun j hj => by have h9 := hq0 j hj; unfold hasN; simp only at h9; rw [h9]; rfl)
      rwa [List.take_of_length_le (Nat.le_refl _)] at this
    have HALL := Lib.hid hall
    clear hq0 hall
    go_wp2_with fail
    go_ret
    exact ⟨rs, by rw [HALL.out, HL.out]; rfl, HL.out, by rw [HALL.out, List.take_of_length_le (Nat.le_refl _)], HRB1.out, HT1.out.mono (fun _ _ h => h.elim)⟩
end Go.Proofs.YtnenkclihgeacaaDoor
