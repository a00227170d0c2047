/- Own lemmas: the order of keys, and of their texts. No statement is proved here. -/
import Derived.Test.YtimajdbgeibalaaDoorOrder
import Derived.Test.YtimajdbgeibalaaDoorStexts
namespace Go.Proofs.YtimajdbgeibalaaDoor
open Go.RowKit
set_option linter.unusedVariables false

theorem lessB_trans : ∀ (xs ys zs : List Int), xs.length = ys.length → ys.length = zs.length → (∀ x ∈ xs, Byt x) → (∀ y ∈ ys, Byt y) → (∀ z ∈ zs, Byt z) → lessB xs ys = true → lessB ys zs = true → lessB xs zs = true
  | [], [], _, _, _, _, _, _, h, _ => by rw [lessB_nil] at h; cases h
  | [], _ :: _, _, h, _, _, _, _, _, _ => by simp at h
  | _ :: _, [], _, h, _, _, _, _, _, _ => by simp at h
  | _ :: _, _ :: _, [], _, h, _, _, _, _, _ => by simp at h
  | x :: xs, y :: ys, z :: zs, h1, h2, hx, hy, hz, hxy, hyz => by
    have bx := hx x (by simp)
    have byy := hy y (by simp)
    have bz := hz z (by simp)
    rw [lessB_cons bx byy] at hxy
    rw [lessB_cons byy bz] at hyz
    rw [lessB_cons bx bz]
    by_cases e1 : x = y
    · subst e1
      rw [if_pos rfl] at hxy
      by_cases e2 : x = z
      · subst e2
        rw [if_pos rfl] at hyz ⊢
        exact lessB_trans xs ys zs (by simpa using h1) (by simpa using h2) (fun a ha => hx a (by simp [ha])) (fun a ha => hy a (by simp [ha])) (fun a ha => hz a (by simp [ha])) hxy hyz
      · rw [if_neg e2] at hyz ⊢; exact hyz
    · rw [if_neg e1] at hxy
      have l1 : x < y := of_decide_eq_true hxy
      by_cases e2 : y = z
      · subst e2
        rw [if_neg e1]; exact hxy
      · rw [if_neg e2] at hyz
        have l2 : y < z := of_decide_eq_true hyz
        rw [if_neg (by omega)]; exact decide_eq_true (by omega)

theorem hexd_mono_all : (List.range 16).all (fun a => (List.range 16).all fun b => decide ((UInt8.ofNat (hexd (a : Int)).toNat < UInt8.ofNat (hexd (b : Int)).toNat) = (a < b)) && decide ((UInt8.ofNat (hexd (a : Int)).toNat == UInt8.ofNat (hexd (b : Int)).toNat) = decide (a = b))) = true := by kernel_rfl
theorem hexd_mono {a b : Int} (ha : 0 ≤ a) (ha' : a < 16) (hb : 0 ≤ b) (hb' : b < 16) :
    (UInt8.ofNat (hexd a).toNat < UInt8.ofNat (hexd b).toNat ↔ a < b) ∧ ((UInt8.ofNat (hexd a).toNat == UInt8.ofNat (hexd b).toNat) = decide (a = b)) := by
  obtain ⟨n, rfl⟩ := Int.eq_ofNat_of_zero_le ha
  obtain ⟨m, rfl⟩ := Int.eq_ofNat_of_zero_le hb
  have h := List.all_eq_true.1 hexd_mono_all n (by simp; omega)
  have h2 := List.all_eq_true.1 h m (by simp; omega)
  simp only [Bool.and_eq_true, decide_eq_true_eq] at h2
  refine ⟨by rw [h2.1]; omega, ?_⟩
  rw [h2.2]
  by_cases e : n = m
  · subst e; simp
  · rw [decide_eq_false e, decide_eq_false (by omega)]
theorem texts_less : ∀ (xs ys : List Int), xs.length = ys.length → (∀ x ∈ xs, Byt x) → (∀ y ∈ ys, Byt y) →
    Op.bytesLess ((hexB xs).map fun n => UInt8.ofNat n.toNat) ((hexB ys).map fun n => UInt8.ofNat n.toNat) = lessB xs ys
  | [], [], _, _, _ => by rw [lessB_nil]; rfl
  | [], _ :: _, h, _, _ => by simp at h
  | _ :: _, [], h, _, _ => by simp at h
  | x :: xs, y :: ys, h, hx, hy => by
    have bx := hx x (by simp)
    have byy := hy y (by simp)
    obtain ⟨x0, x1⟩ := bx
    obtain ⟨y0, y1⟩ := byy
    have ih := texts_less xs ys (by simpa using h) (fun a ha => hx a (by simp [ha])) (fun a ha => hy a (by simp [ha]))
    rw [lessB_cons ⟨x0, x1⟩ ⟨y0, y1⟩]
    simp only [hexB, List.map_cons, Op.bytesLess, ih]
    obtain ⟨p1, p2⟩ := hexd_mono (a := x / 16) (b := y / 16) (by omega) (by omega) (by omega) (by omega)
    obtain ⟨p3, p4⟩ := hexd_mono (a := x % 16) (b := y % 16) (by omega) (by omega) (by omega) (by omega)
    simp only [p1, p2, p3, p4]
    by_cases e : x = y
    · subst e
      simp
    · rw [if_neg e, Bool.eq_iff_iff]
      simp only [Bool.or_eq_true, Bool.and_eq_true, decide_eq_true_eq]
      constructor
      · rintro (h | ⟨h1, h | ⟨h2, _⟩⟩) <;> omega
      · intro h
        by_cases q : x / 16 = y / 16
        · exact Or.inr ⟨q, Or.inl (by omega)⟩
        · exact Or.inl (by omega)
theorem texts_less_str (xs ys : List Int) (h : xs.length = ys.length) (hx : ∀ x ∈ xs, Byt x) (hy : ∀ y ∈ ys, Byt y) :
    Op.bytesLess (strOfNums (hexB xs)).toList (strOfNums (hexB ys)).toList = lessB xs ys := by
  rw [toList_nums, toList_nums]; exact texts_less xs ys h hx hy
end Go.Proofs.YtimajdbgeibalaaDoor
