/- Own texts, packed: Kd, Ke, Kf. -/
import Derived.Test.YtboofamenpcnhaaGreatDoorV44
import Derived.Test.YtboofamenpcnhaaGreatDoorV43
import Derived.Test.YtboofamenpcnhaaGreatDoorV00
namespace Go.Proofs.YtboofamenpcnhaaGreatDoor
set_option maxRecDepth 100000
open Go.RowKit Go.Shelf
set_option linter.unusedVariables false
set_option linter.unusedSimpArgs false
/-- What an object's sectors tell, one behind the other. -/
def catC (C : List (List Int)) (fi k : Nat) : List Int := (List.range k).flatMap fun i => C.getD (fi + i) []
theorem catC_succ (C : List (List Int)) (fi k : Nat) : catC C fi (k + 1) = catC C fi k ++ C.getD (fi + k) [] := by simp [catC, List.range_succ]
theorem catC_len {C : List (List Int)} {fi : Nat} : ∀ (k : Nat), (∀ i, i < k → (C.getD (fi + i) []).length = 64) → (catC C fi k).length = 64 * k
  | 0, _ => rfl
  | k + 1, h => by rw [catC_succ, List.length_append, catC_len k (fun i hi => h i (by omega)), h k (by omega)]; omega
theorem src_sec {w : World} {B : Nat} {s : List Int} (h : w.rangeAt B 0 (secV s)) (hs : s.length = 64) : Src w (.slice (some ⟨B, 0, none⟩) 64 64) s := by
  refine .inl (.inr ⟨B, 0, 64, by rw [hs], by omega, fun i hi => ?_⟩)
  exact h i _ (by simp [secV, List.getD, hi])
theorem src_take {w : World} {base : Nat} {a : Option Addr} {n c : Nat} {zs : List Int} (ho : w.ownsRow base 5 1 (.slice a n c) n (zs.map (Value.int .u8))) (hl : zs.length = n) (k : Nat) (hk : k ≤ n) (h0 : 0 < n) : Src w (.slice a k c) (zs.take k) := by
  rcases ho.2 with ⟨h, h1⟩ | ⟨g, cap, cur, h, _, hg, hnc, _, _, ht⟩
  · omega
  · cases h
    have hkl : (zs.take k).length = k := by simp; omega
    refine .inl (.inr ⟨g, 0, c, by rw [hkl], by omega, fun i hi => ?_⟩)
    rw [hkl] at hi
    have := ho.cells (g := g) rfl i (.int .u8 (zs.getD i 0)) (by simp [List.getD, show i < zs.length by omega])
    rw [Addr.add_mid, Nat.zero_add] at this
    rw [Nat.zero_add, this]
    simp [List.getD, List.getElem?_take, hi]
def ReadPost (w : World) (xs : List Int) (e : Ending) (w' : World) : Prop := ∃ a c, e = .returned (.tuple #[.slice a xs.length c, .int .i64 0]) ∧ Src w' (.slice a xs.length c) xs ∧ Turn (fun _ => False) w w'
set_option maxHeartbeats 8000000 in
theorem sread_any (w : World) (S J M D : Nat) (F : Nat → Prop) (d : DiskM) (L n : Nat) (C : List (List Int)) (sl : List Ob) (hs : ShAt w S J M sl) (hj : JC w F J D d L C n) (o : Ob) (ho : o.Ok) (fi sz : Nat) (hfi : o.first = (fi : Int)) (hsz : o.size = (sz : Int)) (h0 : 0 < sz) (h9 : sz ≤ 900) (hC : fi + secN sz ≤ C.length) (hCs : C.length ≤ 5000) :
    Calls Tryz.prog 37 #[.pointer (some ⟨S, 0, none⟩), .agg o.vals.toArray] w (ReadPost w ((catC C fi (secN sz)).take sz)) := by
  have hbx := box_alloc w 62 o.vals
  obtain ⟨X, hX⟩ : ∃ X, w.heap.size = X := ⟨_, rfl⟩
  obtain ⟨w1, hw1⟩ : ∃ w1, w.alloc (.cells o.vals.toArray 62) = w1 := ⟨_, rfl⟩
  rw [hw1] at hbx
  have hxr := hbx.range
  have c32 := hbx.cell 32 (.int .i64 o.first) (by rw [Ob.vals, List.getElem?_append_right (by simp [ho.len])]; simp [ho.len])
  have c33 := hbx.cell 33 (.int .i64 o.size) (by rw [Ob.vals, List.getElem?_append_right (by simp [ho.len])]; simp [ho.len])
  rw [hX] at hxr c32 c33
  rw [hfi] at c32
  rw [hsz] at c33
  obtain ⟨N, hN⟩ : ∃ N, secN sz = N := ⟨_, rfl⟩
  have hNb : 0 < N ∧ N ≤ 15 ∧ sz ≤ 64 * N := by rw [← hN]; unfold secN; omega
  rw [hN] at hC ⊢
  have HSE := Lib.hid (fun w => (sectors_ob o ho w).mono (fun e w' h => (show e = .returned (.int .i64 (N : Int)) ∧ Turn (fun _ => False) w w' from ⟨by rw [h.1, hsz, Int.toNat_natCast, hN], h.2⟩)))
  have HXR := Lib.hid hxr
  have T1 := Lib.hid hbx.turn
  have HSH := Lib.hid (hs.turn hbx.turn id)
  have HJC := Lib.hid (hj.turn0 hbx.turn)
  have HC32 := Lib.hid c32
  have HC33 := Lib.hid c33
  have HXW := Lib.hid (show X < w1.heap.size from World.block_lt_of_cell? w1 _ c32)
  have HOK := Lib.hid ho
  have hlen : ∀ i, i < N → (C.getD (fi + i) []).length = 64 ∧ BytesOk (C.getD (fi + i) []) := fun i hi => (hj.told (fi + i) (by omega)).2
  have HLEN := Lib.hid hlen
  clear hbx hxr hs hj c32 c33 hfi hsz hlen ho hN
  go_enter Tryz.func37, Tryz.ntmps37
  go_wp2_with (with_reducible (show wpList _ _ _ (Oper.mk (some 10) (.load 62 (.tmp 3)) _ _ _ _ :: _) _ _); refine still ?_)
  refine wpList_load_mid rfl 62 (.tmp 3) rfl X 0 rfl o.vals _ HXR.out Tryz.underlying62 rfl (by simpa using info62v HOK.out) ?_
  go_wp2_with fail
  refine (HSE.out w1).mono ?_
  rintro e w2 ⟨rfl, t2⟩
  have T12 := Lib.hid t2
  have T2 := Lib.hid (T1.out.trans t2 (fun _ _ => id))
  clear t2
  go_wp2_with fail
  go_loopw [6, 12] (fun pv iv wr => ∃ k : Nat, k ≤ N ∧ iv = .int .i64 (k : Int) ∧ wr.ownsRow w1.heap.size 5 1 pv (64 * k) ((catC C fi k).map (Value.int .u8)) ∧ Turn (fun _ => False) w1 wr) (fun _ iv _ => N - (intOf iv).toNat)
  case atStart => exact ⟨0, Nat.zero_le _, rfl, World.ownsRow_nil _ _ _ _, T12.out⟩
  case round =>
    obtain ⟨k, hk, rfl, ho, htr⟩ := hrel
    obtain ⟨pa, pc, hpf, hnc, _⟩ := own_slice ho
    subst hpf
    have HO := Lib.hid ho
    have HTR := Lib.hid htr
    obtain ⟨n6, hn6⟩ : ∃ n6, 64 * k = n6 := ⟨_, rfl⟩
    rw [hn6] at HO hnc
    rw [hn6]
    have HN6 := Lib.hid hn6
    clear ho htr hn6
    by_cases hlt : k < N
    · have dk : decide ((k : Int) < (N : Int)) = true := decide_eq_true (by omega)
      have hw : IntKind.i64.wrap ((fi : Int) + (k : Int)) = ((fi + k : Nat) : Int) := by rw [IntKind.wrap_i64]; omega
      have HHK := Lib.hid (HLEN.out k hlt)
      have hSS : wr.cell? ⟨S, 0, none⟩ = some (.pointer (some ⟨J, 0, none⟩)) ∧ wr.cell? ⟨X, 32, none⟩ = some (.int .i64 (fi : Int)) := ⟨(HSH.out.turn HTR.out id).c0, (HTR.out.cell (p := ⟨X, 32, none⟩) HXW.out id).trans HC32.out⟩
      have HSS := Lib.hid hSS
      clear hSS
      go_wp2_with fail
      refine wp_region_held_drew (S := fun wq => wq.cell? ⟨S, 0, none⟩ = some (.pointer (some ⟨J, 0, none⟩)) ∧ wq.cell? ⟨X, 32, none⟩ = some (.int .i64 (fi : Int))) (by kernel_rfl) HSS.out (fun hHeld => ?_)
      refine wpAnyH_take (i := 0) (v := .pointer (some ⟨S, 0, none⟩)) rfl (by kernel_rfl) (by kernel_rfl) (by kernel_rfl) (fun _ _ _ h => h) (Or.inl ⟨by rfl, ?yq1⟩) (by assumption) ?rq1
      case yq1 => (intro wq hSw; (try simp only [zq1, zq2, zq3]); go_simp; (try with_reducible rfl); all_goals (try omega))
      case rq1 =>
      try simp only [Act.put, zq4, zq5, zq6, zq1, zq2, zq3]
      refine wpAnyH_take (i := 1) (v := .pointer (some ⟨S, 0, none⟩)) rfl (by kernel_rfl) (by kernel_rfl) (by kernel_rfl) (fun _ _ _ h => h) (Or.inl ⟨by rfl, ?yq2⟩) (by assumption) ?rq2
      case yq2 => (intro wq hSw; (try simp only [zq1, zq2, zq3]); go_simp; (try with_reducible rfl); all_goals (try omega))
      case rq2 =>
      try simp only [Act.put, zq4, zq5, zq6, zq1, zq2, zq3]
      refine wpAnyH_take (i := 2) (v := .pointer (some ⟨S, 0, none⟩)) rfl (by kernel_rfl) (by kernel_rfl) (by kernel_rfl) (fun _ _ _ h => h) (Or.inl ⟨by rfl, ?yq3⟩) (by assumption) ?rq3
      case yq3 => (intro wq hSw; (try simp only [zq1, zq2, zq3]); go_simp; (try with_reducible rfl); all_goals (try omega))
      case rq3 =>
      try simp only [Act.put, zq4, zq5, zq6, zq1, zq2, zq3]
      refine wpAnyH_take (i := 3) (v := .pointer (some ⟨J, 0, none⟩)) rfl (by kernel_rfl) (by kernel_rfl) (by kernel_rfl) (fun _ _ _ h => h) (Or.inl ⟨by rfl, ?yq4⟩) (by assumption) ?rq4
      case yq4 => (intro wq hSw; obtain ⟨q1, q2⟩ := hSw; (try simp only [zq1, zq2, zq3]); go_simp; (try with_reducible rfl); all_goals (try omega))
      case rq4 =>
      try simp only [Act.put, zq4, zq5, zq6, zq1, zq2, zq3]
      refine wpAnyH_take (i := 4) (v := .pointer (some ⟨X, 32, none⟩)) rfl (by kernel_rfl) (by kernel_rfl) (by kernel_rfl) (fun _ _ _ h => h) (Or.inl ⟨by rfl, ?yq5⟩) (by assumption) ?rq5
      case yq5 => (intro wq hSw; (try simp only [zq1, zq2, zq3]); go_simp; (try with_reducible rfl); all_goals (try omega))
      case rq5 =>
      try simp only [Act.put, zq4, zq5, zq6, zq1, zq2, zq3]
      refine wpAnyH_take (i := 5) (v := .int .i64 (fi : Int)) rfl (by kernel_rfl) (by kernel_rfl) (by kernel_rfl) (fun _ _ _ h => h) (Or.inl ⟨by rfl, ?yq6⟩) (by assumption) ?rq6
      case yq6 => (intro wq hSw; obtain ⟨q1, q2⟩ := hSw; (try simp only [zq1, zq2, zq3]); go_simp; (try with_reducible rfl); all_goals (try omega))
      case rq6 =>
      try simp only [Act.put, zq4, zq5, zq6, zq1, zq2, zq3]
      refine wpAnyH_take (i := 6) (v := .int .i64 (k : Int)) rfl (by kernel_rfl) (by kernel_rfl) (by kernel_rfl) (fun _ _ _ h => h) (Or.inl ⟨by rfl, ?yq7⟩) (by assumption) ?rq7
      case yq7 => (intro wq hSw; (try simp only [zq1, zq2, zq3]); go_simp; (try with_reducible rfl); all_goals (try omega))
      case rq7 =>
      try simp only [Act.put, zq4, zq5, zq6, zq1, zq2, zq3]
      refine wpAnyH_take (i := 7) (v := .int .i64 ((fi + k : Nat) : Int)) rfl (by kernel_rfl) (by kernel_rfl) (by kernel_rfl) (fun _ _ _ h => h) (Or.inl ⟨by rfl, ?yq8⟩) (by assumption) ?rq8
      case yq8 => (intro wq hSw; (try simp only [zq1, zq2, zq3]); go_simp; (try with_reducible rfl); all_goals (try omega))
      case rq8 =>
      try simp only [Act.put, zq4, zq5, zq6, zq1, zq2, zq3]
      refine wpAnyH_ready (rs := [8]) (by kernel_rfl) (by simp) ?_
      refine AllReadyH.cons rfl (fun K hK => ?_) AllReadyH.nil
      go_simp
      refine (read_h wr.drew F J D d L C n (fi + k) ((HJC.out.turn0 HTR.out).turn0 (Turn.refl (fun _ => False) wr).drew) (by omega)).mono ?_
      rintro e w5 ⟨Bk, rfl, hB1, hB2, hr5, t5⟩
      have T5 := Lib.hid (show Turn (fun _ => False) wr w5 from (Turn.refl (fun _ => False) wr).drew.trans t5 (fun _ _ => id))
      have HSR := Lib.hid (src_sec hr5 HHK.out.1)
      clear t5 hr5 hB1 hB2
      refine hK.out _ _ ⟨(T5.out.cell (p := ⟨S, 0, none⟩) (World.block_lt_of_cell? _ _ HSS.out.1) id).trans HSS.out.1, (T5.out.cell (p := ⟨X, 32, none⟩) (World.block_lt_of_cell? _ _ HSS.out.2) id).trans HSS.out.2⟩ (fun _ => ?_)
      clear hK K
      try simp only [Act.put, zq4, zq5, zq6, zq1, zq2, zq3]
      refine wpAnyH_take (i := 9) (v := .tuple #[.slice (some ⟨Bk, 0, none⟩) 64 64, .int .i64 0]) rfl (by kernel_rfl) (by kernel_rfl) (by kernel_rfl) (fun _ _ _ h => h) (Or.inl ⟨by rfl, ?yq9⟩) (by assumption) ?rq9
      case yq9 => (intro wq hSw; (try simp only [zq1, zq2, zq3]); go_simp; (try with_reducible rfl); all_goals (try omega))
      case rq9 =>
      try simp only [Act.put, zq4, zq5, zq6, zq1, zq2, zq3]
      refine wpAnyH_take (i := 10) (v := .slice (some ⟨Bk, 0, none⟩) 64 64) rfl (by kernel_rfl) (by kernel_rfl) (by kernel_rfl) (fun _ _ _ h => h) (Or.inl ⟨by rfl, ?yq10⟩) (by assumption) ?rq10
      case yq10 => (intro wq hSw; (try simp only [zq1, zq2, zq3]); go_simp; (try with_reducible rfl); all_goals (try omega))
      case rq10 =>
      try simp only [Act.put, zq4, zq5, zq6, zq1, zq2, zq3]
      refine wpAnyH_take (i := 11) (v := .int .i64 0) rfl (by kernel_rfl) (by kernel_rfl) (by kernel_rfl) (fun _ _ _ h => h) (Or.inl ⟨by rfl, ?yq11⟩) (by assumption) ?rq11
      case yq11 => (intro wq hSw; (try simp only [zq1, zq2, zq3]); go_simp; (try with_reducible rfl); all_goals (try omega))
      case rq11 =>
      try simp only [Act.put, zq4, zq5, zq6, zq1, zq2, zq3]
      refine wpAnyH_take (i := 12) (v := .slice (some ⟨Bk, 0, none⟩) 64 64) rfl (by kernel_rfl) (by kernel_rfl) (by kernel_rfl) (fun _ _ _ h => h) (Or.inl ⟨by rfl, ?yq12⟩) (by assumption) ?rq12
      case yq12 => (intro wq hSw; (try simp only [zq1, zq2, zq3]); go_simp; (try with_reducible rfl); all_goals (try omega))
      case rq12 =>
      try simp only [Act.put, zq4, zq5, zq6, zq1, zq2, zq3]
      refine wpAnyH_take (i := 13) (v := .int .i64 0) rfl (by kernel_rfl) (by kernel_rfl) (by kernel_rfl) (fun _ _ _ h => h) (Or.inl ⟨by rfl, ?yq13⟩) (by assumption) ?rq13
      case yq13 => (intro wq hSw; (try simp only [zq1, zq2, zq3]); go_simp; (try with_reducible rfl); all_goals (try omega))
      case rq13 =>
      try simp only [Act.put, zq4, zq5, zq6, zq1, zq2, zq3]
      refine wpAnyH_done (by kernel_rfl) ?_ _
      clear hHeld
      obtain ⟨pv, w6, hra, hro, t6, _⟩ := run_append_src w5 w1.heap.size (.slice pa n6 pc) _ n6 (catC C fi k) (C.getD (fi + k) []) (T5.out.owns HO.out (fun _ _ => id)) HSR.out (by have := T1.out.size; have := HTR.out.size; have := T5.out.size; omega) (by have := HN6.out; have := HHK.out.1; omega)
      have HRA := Lib.hid hra
      have HRO := Lib.hid (show w6.ownsRow w1.heap.size 5 1 pv (64 * (k + 1)) ((catC C fi (k + 1)).map (Value.int .u8)) from by
        have h := hro
        rw [HHK.out.1] at h
        rw [catC_succ, show 64 * (k + 1) = n6 + 64 by have := HN6.out; omega]
        exact h)
      have T6 := Lib.hid (show Turn (fun _ => False) w1 w6 from (HTR.out.trans T5.out (fun _ _ => id)).trans t6 (fun q hq hv => by have h1 := (HO.out.lt q hv).1; have h2 := T1.out.size; omega))
      clear hra hro t6 hw
      go_wp2_with (with_reducible (show wpList _ _ _ (Oper.mk (some 32) _ _ _ _ _ :: _) _ _); refine still ?_)
      refine list_exec rfl _ _ (exec_append _ _ (.tmp 30) (.tmp 31) 29 rfl _ _ _ _ _ rfl rfl HRA.out) ?_
      go_wp2_with fail
      go_roundw
      case rel => exact ⟨k + 1, by omega, by go_num, HRO.out, T6.out⟩
      case measure => simp [intOf]; omega
    · obtain rfl : k = N := by omega
      have dk : decide ((k : Int) < (k : Int)) = false := decide_eq_false (by omega)
      have hc33 := (HTR.out.cell (p := ⟨X, 33, none⟩) HXW.out id).trans HC33.out
      have hle : (sz : Int) ≤ (pc : Int) := by have := HN6.out; omega
      have hle2 : sz ≤ pc := by have := HN6.out; omega
      have HCL := Lib.hid (catC_len (C := C) (fi := fi) k (fun i hi => (HLEN.out i hi).1))
      have HTK := Lib.hid (src_take HO.out (by rw [HCL.out]; exact HN6.out) sz (by have := HN6.out; omega) (by have := HN6.out; omega))
      have HTL := Lib.hid (show ((catC C fi k).take sz).length = sz from by rw [List.length_take, HCL.out]; omega)
      go_wp2_with fail
      refine bodyPost_ret (results_tmp2 (t := 4) (u := 5) (by kernel_rfl) _ _ _) rfl ?_
      exact ⟨pa, pc, by rw [HTL.out]; rfl, by rw [HTL.out]; exact HTK.out, T1.out.trans HTR.out (fun _ _ => id)⟩
end Go.Proofs.YtboofamenpcnhaaGreatDoor
namespace Go.Proofs.YtboofamenpcnhaaGreatDoor
set_option maxRecDepth 100000
open Go.RowKit Go.Shelf
set_option linter.unusedVariables false
set_option linter.unusedSimpArgs false
/-- What the slots tell lies on the disk. -/
def SlOk (sl : List Ob) (Cl : Nat) : Prop := ∀ k, k < 48 → 0 < (sl.getD k ob0).size → 60 ≤ (sl.getD k ob0).first ∧ (sl.getD k ob0).size ≤ 900 ∧ (sl.getD k ob0).first.toNat + secN (sl.getD k ob0).size.toNat ≤ Cl
def objC (C : List (List Int)) (o : Ob) : List Int := (catC C o.first.toNat (secN o.size.toNat)).take o.size.toNat
def GetPost (w : World) (C : List (List Int)) (sl : List Ob) (f : Eight) (ks key : List Int) (e : Ending) (w' : World) : Prop :=
  Turn (fun _ => False) w w' ∧ ((¬ HasP sl key ∧ e = .returned (.tuple #[.slice none 0 0, .int .i64 2])) ∨
    ∃ k, k < 48 ∧ 0 < (sl.getD k ob0).size ∧ (sl.getD k ob0).key = key ∧
      ((keyB (shaE f ks (objC C (sl.getD k ob0))) 8 ≠ key ∧ e = .returned (.tuple #[.slice none 0 0, .int .i64 8])) ∨
       (keyB (shaE f ks (objC C (sl.getD k ob0))) 8 = key ∧ ∃ a c, e = .returned (.tuple #[.slice a (objC C (sl.getD k ob0)).length c, .int .i64 0]) ∧ Src w' (.slice a (objC C (sl.getD k ob0)).length c) (objC C (sl.getD k ob0)))))
set_option maxHeartbeats 8000000 in
theorem sget_any (w : World) (S J M D : Nat) (F : Nat → Prop) (d : DiskM) (L n : Nat) (C : List (List Int)) (sl : List Ob) (f : Eight) (ks key : List Int) (hk : key.length = 32) (tb : Tb w f ks) (hs : ShAt w S J M sl) (hj : JC w F J D d L C n) (hok : SlOk sl C.length) (hCs : C.length ≤ 5000) :
    Calls Tryz.prog 14 #[.pointer (some ⟨S, 0, none⟩), .agg (keyV key).toArray] w (GetPost w C sl f ks key) := by
  have hb := box_alloc w 32 (keyV key)
  have hr := hb.range
  have hz := zero62
  obtain ⟨w1, hw1⟩ : ∃ w1, w.alloc (.cells (keyV key).toArray 32) = w1 := ⟨_, rfl⟩
  rw [hw1] at hb hr
  obtain ⟨X, hX⟩ : ∃ X, w.heap.size = X := ⟨_, rfl⟩
  rw [hX] at hr
  have HB := Lib.hid hb.turn
  have HR := Lib.hid hr
  have HXW := Lib.hid (show X < w1.heap.size from by rw [← hX, hb.size]; omega)
  have HSH := Lib.hid (hs.turn hb.turn id)
  have HJC := Lib.hid (hj.turn0 hb.turn)
  have HTB := Lib.hid (tb.turn0 hb.turn)
  have HOK := Lib.hid hok
  clear hb hr hs hj tb hok
  go_enter Tryz.func14, Tryz.ntmps14
  go_wp2_with (with_reducible (show wpList _ _ _ (Oper.mk (some 13) (.load 32 (.tmp 3)) _ _ _ _ :: _) _ _); refine still ?_)
  refine wpList_load_mid rfl 32 (.tmp 3) rfl X 0 rfl (keyV key) _ HR.out Tryz.underlying32 rfl (info32k hk) ?_
  go_wp2_with fail
  refine (ofind_any S J M sl key hk w1 HSH.out).mono ?_
  rintro e w2 ⟨t2, ⟨k, hk48, hsz, hkey, rfl⟩ | ⟨hno, rfl⟩⟩
  · have HT := Lib.hid t2
    have hobk := HSH.out.getok k hk48
    obtain ⟨o, hob⟩ : ∃ o, sl.getD k ob0 = o := ⟨_, rfl⟩
    have hgo := HOK.out k hk48 hsz
    rw [hob] at hsz hkey hobk hgo ⊢
    have HOB := Lib.hid hob
    have HKEY := Lib.hid hkey
    have HOBK := Lib.hid hobk
    have HSZ := Lib.hid hsz
    have HGO := Lib.hid hgo
    clear t2 hsz hkey hobk hgo hob
    go_wp2_with (with_reducible (show wpList _ _ _ (Oper.mk none (.store 62 (.tmp 7) (.tmp 16)) _ _ _ _ :: _) _ _); refine still ?_)
    refine list_box w2 62 z62 o.vals (by rw [HOBK.out.vlen]; rfl) o.vals_one (by simpa using info62v HOBK.out) rfl (.tmp 7) (.tmp 16) rfl rfl rfl ?_
    intro w3 hB3
    obtain ⟨Y, hY⟩ : ∃ Y, w2.heap.size = Y := ⟨_, rfl⟩
    have hyr := hB3.range
    rw [hY] at hyr ⊢
    have HYR := Lib.hid hyr
    have HT3 := Lib.hid (HT.out.trans hB3.turn (fun _ _ => id))
    clear hB3 hyr hY
    obtain ⟨xs, hxs⟩ : ∃ xs, objC C o = xs := ⟨_, rfl⟩
    have hrd := sread_any w3 S J M D F d L n C sl (HSH.out.turn HT3.out id) (HJC.out.turn0 HT3.out) o HOBK.out o.first.toNat o.size.toNat (by have := HGO.out; omega) (by have := HSZ.out; omega) (by have := HSZ.out; omega) (by have := HGO.out; omega) HGO.out.2.2 hCs
    rw [show (catC C o.first.toNat (secN o.size.toNat)).take o.size.toNat = xs from hxs] at hrd
    have HRD := Lib.hid hrd
    have HXS := Lib.hid hxs
    clear hrd hxs
    go_wp2_with (with_reducible (show wpList _ _ _ (Oper.mk (some 22) (.load 62 (.tmp 7)) _ _ _ _ :: _) _ _); refine still ?_)
    refine wpList_load_mid rfl 62 (.tmp 7) rfl Y 0 rfl o.vals _ HYR.out Tryz.underlying62 rfl (by simpa using info62v HOBK.out) ?_
    go_wp2_with fail
    refine HRD.out.mono ?_
    rintro e w4 ⟨ra, rc, rfl, hsrc, t4⟩
    have HT4 := Lib.hid (HT3.out.trans t4 (fun _ _ => id))
    have HSRC := Lib.hid hsrc
    obtain ⟨ln, hln⟩ : ∃ ln, xs.length = ln := ⟨_, rfl⟩
    rw [hln] at HSRC
    rw [hln]
    have HLN := Lib.hid hln
    have hlb : ln ≤ 900 := by rw [← hln, ← HXS.out, objC]; have := List.length_take_le o.size.toNat (catC C o.first.toNat (secN o.size.toNat)); have := HGO.out; omega
    have HLB := Lib.hid hlb
    obtain ⟨k2, hk2⟩ : ∃ k2, keyB (shaE f ks xs) 8 = k2 := ⟨_, rfl⟩
    have hkl : k2.length = 32 := by rw [← hk2]; exact keyB_len _ 8
    have HK2 := Lib.hid hk2
    have heq : ∀ W, (Op.equalIn 10000 32 (.agg (keyV k2).toArray) (.agg (keyV key).toArray)).run Tryz.prog W = .ok (k2 == key) W := fun W => equalIn_bytes 32 32 9998 Tryz.underlying32 k2 key hkl hk W
    have hrd : Reads w4.drew (.slice ra ln rc) xs ∨ xs = [] := by
      rcases hsrc with h | ⟨x, c, h, h2⟩
      · exact .inl (by rw [← hln]; exact h)
      · exact .inr h2
    have hof : Calls Tryz.prog 28 #[.slice ra ln rc] w4.drew (KeyPost w4.drew k2) := by
      rw [← hk2]
      have hpos : 0 < ln := by
        rw [← hln, ← HXS.out, objC, List.length_take, catC_len _ (fun i hi => ((HJC.out.told (o.first.toNat + i) (by have := HGO.out.2.2; omega)).2).1)]
        have := HSZ.out
        unfold secN
        omega
      rcases hrd with h | h
      · exact of_anyS _ xs ks f w4.drew h (by omega) (HTB.out.turn0 (HT4.out.drew)).roots (HTB.out.turn0 (HT4.out.drew)).first
      · rw [h] at hln; simp at hln; omega
    have HOF := Lib.hid hof
    have HRX := Lib.hid (rangeAt_turn HR.out HT4.out id)
    clear hsrc t4 hln hlb hk2 hrd hof
    go_wp2_with fail
    refine wp_region_held_drew (S := fun wq => wq.rangeAt X 0 (keyV key)) (by kernel_rfl) HRX.out (fun hHeld => ?_)
    refine wpAnyH_take (i := 0) (v := .slice ra ln rc) rfl (by kernel_rfl) (by kernel_rfl) (by kernel_rfl) (fun _ _ _ h => h) (Or.inl ⟨by rfl, ?yq1⟩) (by assumption) ?rq1
    case yq1 => (intro wq hSw; (try simp only [zq1, zq2, zq3]); go_simp; (try with_reducible rfl); all_goals (try omega))
    case rq1 =>
    try simp only [Act.put, zq4, zq5, zq6, zq1, zq2, zq3]
    refine wpAnyH_take (i := 2) (v := .agg (keyV key).toArray) rfl (by kernel_rfl) (by kernel_rfl) (by kernel_rfl) (fun _ _ _ h => h) (Or.inl ⟨by rfl, ?yl2⟩) (by assumption) ?rl2
    case yl2 => (intro wq hSw; exact exec_load_mid _ _ 32 _ rfl X 0 rfl (keyV key) _ _ hSw Tryz.underlying32 rfl (info32k hk))
    case rl2 =>
    try simp only [Act.put, zq4, zq5, zq6, zq1, zq2, zq3]
    refine wpAnyH_ready (rs := [1]) (by kernel_rfl) (by simp) ?_
    refine AllReadyH.cons rfl (fun K hK => ?_) AllReadyH.nil
    go_simp
    refine HOF.out.mono ?_
    rintro e w5 ⟨rfl, t5⟩
    have T5 := Lib.hid (show Turn (fun _ => False) w4 w5 from (Turn.refl (fun _ => False) w4).drew.trans t5 (fun _ _ => id))
    clear t5
    rw [show (k2.map (Value.int .u8)).toArray = (keyV k2).toArray from rfl]
    refine hK.out _ _ (rangeAt_turn HRX.out T5.out id) (fun _ => ?_)
    clear hK K
    try simp only [Act.put, zq4, zq5, zq6, zq1, zq2, zq3]
    refine wpAnyH_take (i := 3) (v := .bool (!(k2 == key))) rfl (by kernel_rfl) (by kernel_rfl) (by kernel_rfl) (fun _ _ _ h => h) (Or.inl ⟨by rfl, ?yq2⟩) (by assumption) ?rq2
    case yq2 => (intro wq hSw; (try simp only [zq1, zq2, zq3]); go_simp; (try with_reducible rfl); all_goals (try omega))
    case rq2 =>
    try simp only [Act.put, zq4, zq5, zq6, zq1, zq2, zq3]
    refine wpAnyH_done (by kernel_rfl) ?_ _
    clear hHeld heq
    have HT5 := Lib.hid ((HB.out.trans HT4.out (fun _ _ => id)).trans T5.out (fun _ _ => id))
    by_cases he : k2 = key
    · have d1 : (k2 == key) = true := by simpa using he
      have HE := Lib.hid he
      clear he
      rw [d1]
      go_wp2_with fail
      refine bodyPost_ret (results_tmp2 (t := 4) (u := 5) (by kernel_rfl) _ _ _) rfl ?_
      exact ⟨HT5.out, .inr ⟨k, hk48, by rw [HOB.out]; exact HSZ.out, by rw [HOB.out]; exact HKEY.out, .inr ⟨by rw [HOB.out, HXS.out, HK2.out]; exact HE.out, ra, rc, by rw [HOB.out, HXS.out, HLN.out]; rfl, by rw [HOB.out, HXS.out, HLN.out]; exact HSRC.out.turn T5.out (fun _ _ => id)⟩⟩⟩
    · have d1 : (k2 == key) = false := by simpa using he
      have HE := Lib.hid he
      clear he
      rw [d1]
      go_wp2_with fail
      refine bodyPost_ret (results_tmp2 (t := 4) (u := 5) (by kernel_rfl) _ _ _) rfl ?_
      exact ⟨HT5.out, .inr ⟨k, hk48, by rw [HOB.out]; exact HSZ.out, by rw [HOB.out]; exact HKEY.out, .inl ⟨by rw [HOB.out, HXS.out, HK2.out]; exact HE.out, rfl⟩⟩⟩
  · have HT := Lib.hid t2
    have HNO := Lib.hid (show ¬ HasP sl key from fun ⟨k, h1, h2, h3⟩ => hno k h1 h2 h3)
    clear t2 hno
    go_wp2_with (with_reducible (show wpList _ _ _ (Oper.mk none (.store 62 (.tmp 7) (.tmp 16)) _ _ _ _ :: _) _ _); refine still ?_)
    refine list_box w2 62 z62 z62 rfl ob0.vals_one info62 rfl (.tmp 7) (.tmp 16) rfl rfl rfl ?_
    intro w3 hB3
    have HT3 := Lib.hid ((HB.out.trans HT.out (fun _ _ => id)).trans hB3.turn (fun _ _ => id))
    clear hB3
    go_wp2_with fail
    refine bodyPost_ret (results_tmp2 (t := 4) (u := 5) (by kernel_rfl) _ _ _) rfl ?_
    exact ⟨HT3.out, .inl ⟨HNO.out, rfl⟩⟩
set_option maxHeartbeats 1600000 in
theorem sdrop_none (w : World) (S J M : Nat) (sl : List Ob) (key : List Int) (hk : key.length = 32) (hs : ShAt w S J M sl) (hno : ¬ HasP sl key) : Calls Tryz.prog 16 #[.pointer (some ⟨S, 0, none⟩), .agg (keyV key).toArray] w fun e w' => e = .returned (.int .i64 2) ∧ Turn (fun _ => False) w w' := by
  have hb := box_alloc w 32 (keyV key)
  have hr := hb.range
  have hz := zero62
  obtain ⟨w1, hw1⟩ : ∃ w1, w.alloc (.cells (keyV key).toArray 32) = w1 := ⟨_, rfl⟩
  rw [hw1] at hb hr
  have HB := Lib.hid hb
  have HSH := Lib.hid (hs.turn hb.turn id)
  have HNO := Lib.hid hno
  clear hb hs hno
  go_enter Tryz.func16, Tryz.ntmps16
  go_wp2_with (with_reducible (show wpList _ _ _ (Oper.mk (some 11) (.load 32 (.tmp 3)) _ _ _ _ :: _) _ _); refine still ?_)
  refine wpList_load_mid rfl 32 (.tmp 3) rfl w.heap.size 0 rfl (keyV key) _ hr Tryz.underlying32 rfl (info32k hk) ?_
  go_wp2_with fail
  refine (ofind_any S J M sl key hk w1 HSH.out).mono ?_
  rintro e w2 ⟨t2, ⟨k, hk48, hsz, hkey, rfl⟩ | ⟨hno, rfl⟩⟩
  · exact absurd ⟨k, hk48, hsz, hkey⟩ HNO.out
  have HT := Lib.hid (HB.out.turn.trans t2 (fun _ _ => id))
  clear t2 hno
  go_wp2_with (with_reducible (show wpList _ _ _ (Oper.mk none (.store 62 (.tmp 6) (.tmp 14)) _ _ _ _ :: _) _ _); refine still ?_)
  refine list_box w2 62 z62 z62 rfl ob0.vals_one info62 rfl (.tmp 6) (.tmp 14) rfl rfl rfl ?_
  intro w3 hB3
  have HT3 := Lib.hid (HT.out.trans hB3.turn (fun _ _ => id))
  clear hB3
  go_wp2_with fail
  go_ret
  exact ⟨rfl, HT3.out⟩
end Go.Proofs.YtboofamenpcnhaaGreatDoor
namespace Go.Proofs.YtboofamenpcnhaaGreatDoor
set_option maxRecDepth 100000
open Go.RowKit Go.Shelf
set_option linter.unusedVariables false
set_option linter.unusedSimpArgs false
/-- A shelf's slots: these objects, then none. -/
def slE (obs : List Ob) : List Ob := obs ++ List.replicate (48 - obs.length) ob0
theorem slE_nil : slE [] = bl := rfl
theorem slE_in {obs : List Ob} {k : Nat} (h : k < obs.length) : (slE obs).getD k ob0 = obs.getD k ob0 := by
  simp [slE, List.getD, List.getElem?_append_left h]
theorem slE_out {obs : List Ob} {k : Nat} (h : obs.length ≤ k) : (slE obs).getD k ob0 = ob0 := by
  simp only [slE, List.getD, List.getElem?_append_right h, List.getElem?_replicate]
  split <;> rfl
theorem slE_set {obs : List Ob} (h : obs.length < 48) (o : Ob) : (slE obs).set obs.length o = slE (obs ++ [o]) := by
  unfold slE
  rw [List.set_append_right _ _ (Nat.le_refl _), Nat.sub_self]
  obtain ⟨q, hq⟩ : ∃ q, 48 - obs.length = q + 1 := ⟨47 - obs.length, by omega⟩
  rw [hq, List.replicate_succ, List.set_cons_zero, List.length_append, List.length_singleton, show 48 - (obs.length + 1) = q by omega]
  simp
theorem memb {obs : List Ob} {k : Nat} (h : k < obs.length) : obs.getD k ob0 ∈ obs := by simp [List.getD, h]
theorem hasP_slE {obs : List Ob} (hl : obs.length ≤ 48) (key : List Int) (hs : ∀ o ∈ obs, 0 < o.size) : HasP (slE obs) key ↔ key ∈ obs.map Ob.key := by
  constructor
  · rintro ⟨k, hk, h1, h2⟩
    by_cases h : k < obs.length
    · rw [slE_in h] at h1 h2
      exact List.mem_map.2 ⟨_, memb h, h2⟩
    · rw [slE_out (by omega)] at h1
      exact absurd h1 (by decide)
  · intro h
    obtain ⟨o, ho, rfl⟩ := List.mem_map.1 h
    obtain ⟨k, hk, rfl⟩ := List.getElem_of_mem ho
    have e : (slE obs).getD k ob0 = obs[k] := by rw [slE_in hk]; simp [List.getD, hk]
    exact ⟨k, by omega, by rw [e]; exact hs _ ho, by rw [e]⟩
theorem objs_slE {obs : List Ob} (hg : SGood (slE obs)) (hl : obs.length ≤ 48) (hs : ∀ o ∈ obs, 0 < o.size) : ∀ k, k ≤ 48 → (objsTo (slE obs) hg k).map (fun x => x.1.2) = obs.take k
  | 0, _ => rfl
  | k + 1, hk => by
    have ih := objs_slE hg hl hs k (by omega)
    unfold objsTo
    by_cases h : k < obs.length
    · have e := slE_in h
      have h0 : 0 < ((slE obs).getD k ob0).size := by rw [e]; exact hs _ (memb h)
      rw [dif_pos ⟨by omega, h0⟩, List.map_append, ih, List.map_cons, List.map_nil]
      show obs.take k ++ [(slE obs).getD k ob0] = _
      rw [e, List.take_add_one, List.getElem?_eq_getElem h]
      simp [List.getD, h]
    · have e := slE_out (obs := obs) (k := k) (by omega)
      rw [dif_neg (by rw [e]; rintro ⟨_, h⟩; exact absurd h (by decide)), ih, List.take_of_length_le (by omega), List.take_of_length_le (by omega)]
theorem nOb_slE {obs : List Ob} (hg : SGood (slE obs)) (hl : obs.length ≤ 48) (hs : ∀ o ∈ obs, 0 < o.size) : nOb (slE obs) hg = obs.length := by
  have := congrArg List.length (objs_slE hg hl hs 48 (Nat.le_refl _))
  rw [List.length_map, List.take_of_length_le hl] at this
  exact this
theorem keys_slE {obs : List Ob} (hg : SGood (slE obs)) (hl : obs.length ≤ 48) (hs : ∀ o ∈ obs, 0 < o.size) : (objsTo (slE obs) hg 48).map (fun x => (⟨x.1.2.key⟩ : Ky)) = obs.map fun o => (⟨o.key⟩ : Ky) := by
  have := congrArg (List.map fun o : Ob => (⟨o.key⟩ : Ky)) (objs_slE hg hl hs 48 (Nat.le_refl _))
  rw [List.map_map, List.take_of_length_le hl] at this
  exact this
/-- All below T is taken. -/
def below (T : Nat) : Nat → Bool := fun p => decide (p < T)
theorem below_zero : below 0 = fun _ => false := by funext p; simp [below]
theorem below_more (T N : Nat) : (fun p => below T p || inR (T, T + N) p) = below (T + N) := by
  funext p
  unfold below inR
  by_cases h : p < T
  · simp [h]; omega
  · simp [h]; omega
theorem below_cnt (T P : Nat) (h : T ≤ P) : cnt (fun p => !below T p) P = P - T := by
  have h1 := cnt_not (below T) P
  have h2 : cnt (below T) P = min P T := by
    have e : below T = inR (0, T) := by funext p; simp [below, inR]
    rw [e, cnt_in (0, T) (Nat.zero_le _)]
    simp
  omega
theorem below_least {T P N : Nat} (hN : 0 < N) (h : T + N ≤ P) : ∀ o, Least (below T) P N o → o = some T
  | none, hl => absurd ⟨h, fun j hj => decide_eq_false (show ¬ T + j < T by omega)⟩ (hl T)
  | some q, hl => by
    have h1 := hl.1.2 0 hN
    have h2 := hl.2
    have hq : T ≤ q := by
      have := of_decide_eq_false h1
      omega
    by_cases e : q = T
    · rw [e]
    · exact absurd ⟨h, fun j hj => decide_eq_false (show ¬ T + j < T by omega)⟩ (h2 T (by omega))
end Go.Proofs.YtboofamenpcnhaaGreatDoor
