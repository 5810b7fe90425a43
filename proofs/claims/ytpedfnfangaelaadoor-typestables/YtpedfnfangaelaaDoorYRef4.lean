/- The document's Formed and cut say what parse says. -/
import Derived.Test.YtpedfnfangaelaaDoorYRef3
namespace Go.Proofs.YtpedfnfangaelaaDoor
open Go.ChangeShapes Go.WideShapes Go.ChangeAt Go.RowKit
set_option linter.unusedSimpArgs false
set_option linter.unusedVariables false

theorem cut1_brk (t : ByteArray) : cut1 t 91 = match brk t with
    | none => (t, ⟨#[]⟩, false)
    | some i => (t.extract 0 i, t.extract (i + 1) t.size, true) := by
  unfold cut1 brk
  split <;> rfl
theorem byteAt_app {d : ByteArray} {l : List UInt8} {x : UInt8} (h : d.data.toList = l ++ [x]) (k : Nat) (hk : k < l.length) : byteAt d k = byteAt ⟨l.toArray⟩ k := by
  unfold byteAt
  rw [h, List.getElem?_append_left hk]
theorem byteAt_last {d : ByteArray} {l : List UInt8} {x : UInt8} (h : d.data.toList = l ++ [x]) : byteAt d l.length = (x.toNat : Int) := by
  unfold byteAt
  rw [h, List.getElem?_append_right (Nat.le_refl _), Nat.sub_self]
  rfl
theorem suffix_one (l : List UInt8) (x : UInt8) : Lib.hasSuffix (l ++ [x]) [93] = (x == 93) := by
  unfold Lib.hasSuffix
  rw [Bool.eq_iff_iff, List.isSuffixOf_iff_suffix, beq_iff_eq]
  constructor
  · rintro ⟨p, hp⟩
    have := List.append_inj' hp rfl
    simpa using this.2.symm
  · rintro rfl
    exact ⟨l, rfl⟩
theorem digs_last {d : ByteArray} {l : List UInt8} (h : d.data.toList = l ++ [93]) : digs d = ⟨l.toArray⟩ := by
  unfold digs Lib.trimSuffix
  rw [h, suffix_one]
  simp
theorem dOk_eq (d : ByteArray) : dOk d = digOk d := by
  have hsz : d.size = d.data.toList.length := rfl
  rcases List.eq_nil_or_concat d.data.toList with hl | ⟨l, x, hl⟩
  · have h0 : d.size = 0 := by rw [hsz, hl]; rfl
    have h1 : dOk d = false := by unfold dOk; rw [h0]; rfl
    have h2 : digOk d = false := by unfold digOk; rw [hl]; rfl
    rw [h1, h2]
  · have hl' : d.data.toList = l ++ [x] := by simpa using hl
    have hz : d.size = l.length + 1 := by rw [hsz, hl']; simp
    have hlast : byteAt d (d.size - 1) = (x.toNat : Int) := by
      rw [show d.size - 1 = l.length by omega]
      exact byteAt_last hl'
    by_cases hx : x = 93
    · subst hx
      have hdg := digs_last hl'
      unfold dOk digOk
      rw [hlast, hl', suffix_one, hdg]
      have hds : (⟨l.toArray⟩ : ByteArray).size = l.length := by show l.toArray.size = _; simp
      have hdl : (⟨l.toArray⟩ : ByteArray).data.toList = l := by simp
      rw [Bool.eq_iff_iff]
      have hall : (⟨l.toArray⟩ : ByteArray).data.toList.all (fun b => digitB (b.toNat : Int)) = true ↔ ∀ i, i < l.length → digitB (byteAt ⟨l.toArray⟩ i) = true := by
        rw [all_byteAt digitB ⟨l.toArray⟩, hds]
      simp only [Bool.and_eq_true, Bool.not_eq_true', beq_iff_eq, decide_eq_true_eq, decide_eq_false_iff_not, beq_eq_false_iff_ne, hall, beq_self_eq_true, true_and, hds, hz]
      constructor
      · rintro ⟨h1, _, h2, h3, h4⟩
        refine ⟨by omega, ?_, fun i hi => ?_⟩
        · rw [← byteAt_app hl' 0 (by omega)]; omega
        · rw [← byteAt_app hl' i hi]; exact h4 i (by omega)
      · rintro ⟨h1, h2, h3⟩
        have h30 := h3 0 (by omega)
        have e0 := byteAt_app hl' 0 (by omega)
        simp only [digitB, Bool.and_eq_true, decide_eq_true_eq] at h30
        refine ⟨by omega, by rfl, by rw [e0]; omega, by rw [e0]; omega, fun k hk => ?_⟩
        rw [byteAt_app hl' k (by omega)]
        exact h3 k (by omega)
    · have h1 : dOk d = false := by
        unfold dOk
        rw [hlast]
        have : ((x.toNat : Int) == 93) = false := by
          rw [beq_eq_false_iff_ne]
          intro e
          exact hx (UInt8.toNat_inj.1 (by have : ((93 : UInt8).toNat : Int) = 93 := rfl; omega))
        rw [this]
        simp
      have h2 : digOk d = false := by
        unfold digOk
        rw [hl', suffix_one]
        have : (x == 93) = false := by simpa using hx
        rw [this]
        rfl
      rw [h1, h2]
/-- A base, as parse asks it. -/
def formB (b : ByteArray) : Bool := if (cut1 b 32).2.2 = true then isS (cut1 b 32).1 cStruct && nameS (cut1 b 32).2.1 else isS b cVoid || intS b
theorem no32 {b : ByteArray} {c : List UInt8} (h : (32 : UInt8) ∈ b.data.toList) (hc : (32 : UInt8) ∉ c) : isS b c = false := by
  unfold isS
  rw [beq_eq_false_iff_ne]
  intro e
  rw [e] at h
  exact hc h
theorem formB_eq (b : ByteArray) : formB b = finS b := by
  have hsz : b.data.toList.length = b.size := rfl
  unfold formB cut1
  by_cases h0 : 0 ≤ Lib.indexByte b.data.toList 32
  · rw [if_pos h0]
    have hlt := indexByte_lt b.data.toList 32
    obtain ⟨n, hn⟩ : ∃ n : Nat, Lib.indexByte b.data.toList 32 = (n : Int) := ⟨(Lib.indexByte b.data.toList 32).toNat, by omega⟩
    rw [hn, Int.toNat_natCast]
    obtain ⟨h1, h2⟩ := Lib.indexByte_some hn
    rw [hn] at hlt
    have hm : (32 : UInt8) ∈ b.data.toList := List.mem_of_getElem? h1
    simp only [if_true]
    have hc : isS b cChar = false := no32 hm (by decide)
    have hi : isS b cInt = false := no32 hm (by decide)
    have hl : isS b cLong = false := no32 hm (by decide)
    have hv : isS b cVoid = false := no32 hm (by decide)
    unfold finS
    rw [hc, hi, hl, hv]
    simp only [Bool.false_or]
    by_cases hw : isS (b.extract 0 n) cStruct = true
    · rw [hw, Bool.true_and]
      have hl1 := (isS_iff _ _).1 hw
      rw [extract_list, List.drop_zero, Nat.sub_zero] at hl1
      have hn6 : n = 6 := by
        have := congrArg List.length hl1
        rw [List.length_take, hsz] at this
        simp [cStruct] at this
        omega
      subst hn6
      have h7 : isS (b.extract 0 7) [115, 116, 114, 117, 99, 116, 32] = true := by
        rw [isS_iff, extract_list, List.drop_zero, Nat.sub_zero]
        have h3 := List.take_append_getElem (l := b.data.toList) (i := 6) (by omega)
        rw [hl1] at h3
        have h4 : b.data.toList[6]'(by omega) = 32 := by
          have := h1
          rw [List.getElem?_eq_getElem (by omega)] at this
          exact Option.some.inj this
        rw [h4] at h3
        rw [← h3]
        rfl
      rw [h7, Bool.true_and]
      by_cases h8 : (7 : Int) < b.size
      · rw [decide_eq_true h8, Bool.true_and]
      · rw [decide_eq_false h8, Bool.false_and]
        have : (b.extract (6 + 1) b.size).size = 0 := by simp only [ByteArray.size_extract]; omega
        simp [nameS, this]
    · have hw' : isS (b.extract 0 n) cStruct = false := by simpa using hw
      rw [hw', Bool.false_and]
      symm
      by_cases h7 : isS (b.extract 0 7) [115, 116, 114, 117, 99, 116, 32] = true
      · exfalso
        have hl7 := (isS_iff _ _).1 h7
        rw [extract_list, List.drop_zero, Nat.sub_zero] at hl7
        have hb7 : 7 ≤ b.data.toList.length := by
          have := congrArg List.length hl7
          rw [List.length_take] at this
          simp at this
          omega
        have hget : ∀ k, k < 7 → b.data.toList[k]? = [115, 116, 114, 117, 99, 116, 32][k]? := fun k hk => by
          rw [← hl7, List.getElem?_take, if_pos hk]
        have hn6 : n = 6 := by
          rcases Nat.lt_trichotomy n 6 with h | h | h
          · exfalso
            have := hget n (by omega)
            rw [h1] at this
            match n, h with
            | 0, _ => simp at this
            | 1, _ => simp at this
            | 2, _ => simp at this
            | 3, _ => simp at this
            | 4, _ => simp at this
            | 5, _ => simp at this
          · exact h
          · exfalso
            exact h2 6 h (by rw [hget 6 (by omega)]; rfl)
        subst hn6
        apply hw
        rw [isS_iff, extract_list, List.drop_zero, Nat.sub_zero]
        have := congrArg (List.take 6) hl7
        rw [List.take_take] at this
        simpa [cStruct] using this
      · have h7' : isS (b.extract 0 7) [115, 116, 114, 117, 99, 116, 32] = false := by simpa using h7
        rw [h7']
        simp
  · rw [if_neg h0]
    simp only [Bool.false_eq_true, if_false]
    have hge := Lib.indexByte_ge b.data.toList 32
    have hno : (32 : UInt8) ∉ b.data.toList := fun hm => by
      obtain ⟨k, hk⟩ := List.mem_iff_getElem?.1 hm
      exact Lib.indexByte_none (by omega) k hk
    have h7 : isS (b.extract 0 7) [115, 116, 114, 117, 99, 116, 32] = false := by
      unfold isS
      rw [beq_eq_false_iff_ne]
      intro e
      rw [extract_list, List.drop_zero, Nat.sub_zero] at e
      apply hno
      have : (32 : UInt8) ∈ List.take 7 b.data.toList := by rw [e]; decide
      exact List.mem_of_mem_take this
    unfold finS intS
    rw [h7]
    cases isS b cVoid <;> cases isS b cChar <;> cases isS b cInt <;> cases isS b cLong <;> simp
theorem formOk_zero (r : ByteArray) : formOk r 0 = formB (baseS r) := by
  unfold formOk formB
  split
  · rfl
  · rename_i hn
    have : (cut1 (baseS r) 32).1 = baseS r := by
      unfold cut1 at hn ⊢
      split
      · rename_i h; rw [if_pos h] at hn; simp at hn
      · rfl
    rw [this]
    cases isS (baseS r) cVoid <;> simp
theorem base_list (r : ByteArray) : (baseS r).data.toList = Lib.trimRightB r.data.toList 42 := by
  show (Lib.trimRightB r.data.toList 42).toArray.toList = _
  rw [List.toList_toArray]
theorem base_full {r : ByteArray} (h : r.size ≤ (baseS r).size) : baseS r = r := by
  apply ba_ext
  rw [base_list]
  have hl : (Lib.trimRightB r.data.toList 42).length = r.data.toList.length := by
    have h1 := size_baseS r
    have h2 : (baseS r).size = (Lib.trimRightB r.data.toList 42).length := by rw [← base_list]; rfl
    have h3 : r.data.toList.length = r.size := rfl
    omega
  unfold Lib.trimRightB at *
  rw [List.length_reverse] at hl
  have hs := List.dropWhile_sublist (p := (· == (42 : UInt8))) (l := r.data.toList.reverse)
  have := hs.eq_of_length (by rw [hl, List.length_reverse])
  rw [this, List.reverse_reverse]
theorem base_sub {r : ByteArray} {x : UInt8} (h : x ∈ (baseS r).data.toList) : x ∈ r.data.toList := by
  rw [base_list] at h
  unfold Lib.trimRightB at h
  rw [List.mem_reverse] at h
  have := (List.dropWhile_sublist (p := (· == (42 : UInt8))) (l := r.data.toList.reverse)).subset h
  simpa using this
theorem void_stars (r : ByteArray) (h : isS (baseS r) cVoid = true) : decide (0 < (r.size : Int) - (baseS r).size) = !(isS r cVoid) := by
  have hb := (isS_iff _ _).1 h
  have hle := size_baseS r
  cases hv : isS r cVoid
  · simp only [Bool.not_false, decide_eq_true_eq]
    rcases Nat.lt_or_ge (baseS r).size r.size with h1 | h1
    · omega
    · exfalso
      -- no star was cut: the base is the text
      have : baseS r = r := base_full (by omega)
      rw [this] at h
      rw [h] at hv
      cases hv
  · simp only [Bool.not_true, decide_eq_false_iff_not]
    have hr := (isS_iff _ _).1 hv
    have e1 : r.size = 4 := by
      have : r.data.toList.length = r.size := rfl
      rw [← this, hr]; rfl
    have e2 : (baseS r).size = 4 := by
      have : (baseS r).data.toList.length = (baseS r).size := rfl
      rw [← this, hb]; rfl
    omega
theorem formOk_pos (r : ByteArray) {c : Int} (hc : 1 ≤ c) : formOk r c = (!(isS r cVoid) && formB (baseS r)) := by
  unfold formOk formB
  by_cases hf : (cut1 (baseS r) 32).2.2 = true
  · rw [if_pos hf, if_pos hf]
    have hv : isS r cVoid = false := by
      cases h : isS r cVoid
      · rfl
      · exfalso
        have hr := (isS_iff _ _).1 h
        -- the base of 'void' has no blank
        have hb : (32 : UInt8) ∈ (baseS r).data.toList := by
          unfold cut1 at hf
          split at hf
          · rename_i h0
            have hlt := indexByte_lt (baseS r).data.toList 32
            obtain ⟨n, hn⟩ : ∃ n : Nat, Lib.indexByte (baseS r).data.toList 32 = (n : Int) := ⟨(Lib.indexByte (baseS r).data.toList 32).toNat, by omega⟩
            exact List.mem_of_getElem? (Lib.indexByte_some hn).1
          · simp at hf
        have : (32 : UInt8) ∈ r.data.toList := base_sub hb
        rw [hr] at this
        revert this; decide
    rw [hv]
    simp
  · rw [if_neg hf, if_neg hf]
    have hw : (cut1 (baseS r) 32).1 = baseS r := by
      unfold cut1 at hf ⊢
      split
      · rename_i h; rw [if_pos h] at hf; simp at hf
      · rfl
    rw [hw]
    cases hb : isS (baseS r) cVoid
    · simp only [Bool.false_eq_true, if_false, Bool.false_or]
      cases hv : isS r cVoid
      · simp
      · exfalso
        have hr := (isS_iff _ _).1 hv
        have : baseS r = r := by
          apply ba_ext
          show (Lib.trimRightB r.data.toList 42).toArray.toList = _
          rw [hr]
          rfl
        rw [this, hv] at hb
        cases hb
    · have h1 : (c == 0) = false := by rw [beq_eq_false_iff_ne]; omega
      simp only [if_true, h1, Bool.or_false, Bool.true_or, Bool.and_true]
      exact void_stars r hb
end Go.Proofs.YtpedfnfangaelaaDoor
