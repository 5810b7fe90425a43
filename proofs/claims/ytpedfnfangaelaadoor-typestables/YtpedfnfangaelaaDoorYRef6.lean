/- The document's own answer for types: contract of Places, where Size keeps its own. -/
import Derived.Test.YtpedfnfangaelaaDoorYRef5
namespace Go.Proofs.YtpedfnfangaelaaDoor
open Go.ChangeShapes Go.WideShapes Go.ChangeAt Go.RowKit
set_option linter.unusedSimpArgs false
set_option linter.unusedVariables false

/-- The document's places so far. -/
structure PS where
  at_ : Int
  al : Int
  lim : Bool
  offs : List Int
def plStep (T : Tab) (s : PS) (f : Fd) : PS :=
  if (szF T f.typ).2.2 = 0 then ⟨upI s.at_ (szF T f.typ).2.1 + (szF T f.typ).1, max s.al (szF T f.typ).2.1, s.lim, s.offs ++ [upI s.at_ (szF T f.typ).2.1]⟩ else ⟨s.at_, s.al, true, s.offs⟩
def plL (T : Tab) (s : PS) : List Fd → Option PS
  | [] => some s
  | f :: l => if (szF T f.typ).2.2 = 5 then none else plL T (plStep T s f) l
def plO : Option PS → Int × List Int × Int × Int
  | none => (5, [], 0, 0)
  | some s => if (s.lim || decide (65536 < upI s.at_ s.al)) = true then (2, [], 0, 0) else (0, s.offs, upI s.at_ s.al, s.al)
def plF (T : Tab) (l : List Fd) : Int × List Int × Int × Int := plO (plL T ⟨0, 1, false, []⟩ l)
def intV (x : Int) : Value := .int .i64 x
/-- The value is a slice of these numbers. -/
def OffAt (w : World) (v : Value) (l : List Int) : Prop := ∃ (a : Option Addr) (cap : Nat), v = .slice a l.length cap ∧ (l.length : Int) ≤ 4611686018427387904 ∧ (l ≠ [] → ∃ b off : Nat, a = some ⟨b, off, none⟩ ∧ ∀ (i : Nat) (x : Int), l[i]? = some x → w.cell? ⟨b, off + i, none⟩ = some (.int .i64 x))
theorem OffAt.keep {w w' : World} {v : Value} {l : List Int} (h : OffAt w v l) (hb : Below w.heap.size w w') : OffAt w' v l := by
  obtain ⟨a, cap, hv, h1, h2⟩ := h
  refine ⟨a, cap, hv, h1, fun hl => ?_⟩
  obtain ⟨b, off, e, hc⟩ := h2 hl
  exact ⟨b, off, e, fun i x hx => keep_cell hb (hc i x hx)⟩
theorem OffAt.nil (w : World) : OffAt w (.slice none 0 0) [] := ⟨none, 0, rfl, by decide, fun h => absurd rfl h⟩
/-- The answer of Places. -/
def retPl (r : Int × List Int × Int × Int) (w : World) : Ending → World → Prop := fun e w' => ∃ v, e = .returned (.tuple #[v, .int .i64 r.2.2.1, .int .i64 r.2.2.2, .int .i64 r.1]) ∧ OffAt w' v r.2.1 ∧ Below w.heap.size w w'
theorem end_P {P : Program} {fn : Func} {a : Act} {w w' : World} {r : Int × List Int × Int × Int} (v : Value) (hr : (results fn a.tmps).run P w' = .ok (.tuple #[v, .int .i64 r.2.2.1, .int .i64 r.2.2.2, .int .i64 r.1]) w') (hd : a.defers = []) (hp : OffAt w' v r.2.1) (hb : Below w.heap.size w w') :
    bodyPost P fn (retPl r w) .ret a w' := bodyPost_ret hr hd ⟨v, rfl, hp, hb⟩
theorem row_getM {w : World} {base e size n : Nat} {v : Value} {xs : List Value} (h : w.ownsRow base e size v n xs) {g cap m : Nat} (hv : v = .slice (some ⟨g, 0, none⟩) m cap) {j : Nat} {u : Value} (hj : xs[j]? = some u) : w.cell? ⟨g, j, none⟩ = some u := by
  obtain ⟨hl, ⟨e0, _⟩ | ⟨g2, c2, cur, e0, hb, hh, h4, h5, h6, h7⟩⟩ := h
  · rw [e0] at hv; cases hv
  · rw [e0] at hv
    cases hv
    refine heap_cell hh ?_
    rw [← h7, List.getElem?_take] at hj
    split at hj
    · simpa using hj
    · cases hj
theorem owns_off {w : World} {base g cap : Nat} {l : List Int} (h : w.ownsRow base 2 1 (.slice (some ⟨g, 0, none⟩) l.length cap) l.length (l.map intV)) (hl : l.length ≤ 100000) : OffAt w (.slice (some ⟨g, 0, none⟩) l.length cap) l := by
  refine ⟨some ⟨g, 0, none⟩, cap, rfl, by omega, fun _ => ⟨g, 0, rfl, fun i x hx => ?_⟩⟩
  rw [Nat.zero_add]
  exact row_getM h rfl (by rw [List.getElem?_map, hx]; rfl)
theorem infoI : (Tryd.prog.info? 2).map (fun i => (i.zero, i.size, i.bytes)) = some (some (.int .i64 0), 1, 8) := by kernel_rfl
theorem make_off (w : World) : (Instr.makeSlice 45 (.int .i64 0) (.int .i64 0)).run Tryd.prog w = .ok (.slice (some ⟨w.heap.size, 0, none⟩) 0 0) (w.alloc (.cells #[] 2)) := by
  kernel_rfl
def PSok (s : PS) (i : Nat) : Prop := 0 ≤ s.at_ ∧ s.at_ ≤ 65544 * i ∧ 1 ≤ s.al ∧ s.al ≤ 8 ∧ s.offs.length ≤ i
theorem PSok.step {T : Tab} (h : GoodT T) {s : PS} {i : Nat} (hs : PSok s i) (f : Fd) : PSok (plStep T s f) (i + 1) := by
  obtain ⟨h1, h2, h3, h4, h5⟩ := hs
  unfold plStep
  split
  · rename_i he
    have hz := szF_ok h he
    have hu := upI_range h1 hz.2.2.1
    refine ⟨?_, ?_, ?_, ?_, ?_⟩ <;> simp only [List.length_append, List.length_singleton] <;> omega
  · refine ⟨h1, ?_, h3, h4, ?_⟩ <;> dsimp only <;> omega
set_option maxRecDepth 100000 in
set_option maxHeartbeats 8000000 in
theorem rPlaces_of (lv : Value) (l : List St) (T : Tab) (k : Nat) (x : St) (hx : l[k]? = some x) (hf10 : x.fields.length ≤ 10) (hG : GoodT T) (hS : StS l)
    (HSZ : ∀ (t : ByteArray) w', t.size ≤ 281474976710656 → RStAt w' lv l → Calls Tryd.prog 17 #[lv, .int .i64 (k : Int), .string t] w' (retP (.tuple #[.int .i64 (szF T t).1, .int .i64 (szF T t).2.1, .int .i64 (szF T t).2.2]) w'))
    (w : World) (hl : RStAt w lv l) : Calls Tryd.prog 16 #[lv, .int .i64 (k : Int)] w (retPl (plF T x.fields) w) := by
  have HRS : Hid (RStAt w lv l) := hl
  have HZ : Hid (∀ (t : ByteArray) w', t.size ≤ 281474976710656 → RStAt w' lv l → Calls Tryd.prog 17 #[lv, .int .i64 (k : Int), .string t] w' (retP (.tuple #[.int .i64 (szF T t).1, .int .i64 (szF T t).2.1, .int .i64 (szF T t).2.2]) w')) := HSZ
  clear HSZ
  obtain ⟨la, lc, rfl, hll, hlc⟩ := hl
  obtain ⟨lb, lo, rfl, hc⟩ := hlc (fun e => by rw [e] at hx; simp at hx)
  obtain ⟨_, fv, c1, hfd⟩ := hc k x hx
  have HRF : Hid (RFdAt w fv x.fields) := hfd
  have HFS : Hid (FdS x.fields ∧ GoodT T) := ⟨(hS x (List.mem_of_getElem? hx)).2, hG⟩
  have hkl := (List.getElem?_eq_some_iff.1 hx).1
  have k0 : (0 : Int) ≤ k := by omega
  have k1 : (k : Int) < l.length := by omega
  obtain ⟨fa, fc, rfl, hfl, hfc⟩ := hfd
  have HFC : Hid (x.fields ≠ [] → ∃ b off : Nat, fa = some ⟨b, off, none⟩ ∧ ∀ (i : Nat) (y : Fd), x.fields[i]? = some y → w.cell? ⟨b, off + i * 3, none⟩ = some (.string y.typ) ∧ w.cell? ⟨b, off + i * 3 + 1, none⟩ = some (.string y.name) ∧ w.cell? ⟨b, off + i * 3 + 2, none⟩ = some (.bool false)) := hfc
  clear hc hlc hx hS hG hfc hkl HRF
  obtain ⟨nm, fields⟩ := x
  dsimp only at *
  obtain ⟨R, hR⟩ : ∃ R, plL T ⟨0, 1, false, []⟩ fields = R := ⟨_, rfl⟩
  obtain ⟨r, hr⟩ : ∃ r, plF T fields = r := ⟨_, rfl⟩
  have HR : Hid (plL T ⟨0, 1, false, []⟩ fields = R) := hR
  have HX : Hid (plO R = r) := by show _ = _; rw [← hr, ← hR]; rfl
  rw [hr]
  clear hr hR
  obtain ⟨n, hn⟩ : ∃ n, fields.length = n := ⟨_, rfl⟩
  have HNL : Hid (fields.length = n) := hn
  rw [hn] at hfl hf10 c1
  clear hn
  obtain ⟨ln, hln⟩ : ∃ ln, l.length = ln := ⟨_, rfl⟩
  rw [hln] at k1 hll HZ HRS ⊢
  have HLN : Hid (l.length = ln) := hln
  clear hln
  obtain ⟨r0, r1, r2, r3⟩ := r
  obtain ⟨i0, hi, hz0, hz1, hz2⟩ := info_parts infoI
  have HIN : Hid (Tryd.prog.info? 2 = some i0 ∧ i0.zero = some (.int .i64 0) ∧ i0.size = 1 ∧ i0.bytes = 8) := ⟨hi, hz0, hz1, hz2⟩
  clear hi hz0 hz1 hz2
  have H0 : Hid ((w.alloc (.cells #[] 2)).ownsRow w.heap.size 2 1 (.slice (some ⟨w.heap.size, 0, none⟩) 0 0) 0 [] ∧ Below w.heap.size w (w.alloc (.cells #[] 2))) := ⟨World.ownsRow_made w #[] 0 (Nat.le_refl _) (Nat.zero_le _) rfl, bel_new w _⟩
  have mk := make_off
  go_enter Tryd.func16, Tryd.ntmps16
  go_wp2_with fail
  go_loopw [8, 9, 10, 11, 12] (fun v8 v9 v10 v11 v12 wr => ∃ (i : Nat) (s : PS) (g cap : Nat), i ≤ n ∧ v8 = .int .i64 s.at_ ∧ v9 = .int .i64 s.al ∧ v10 = .bool s.lim ∧ v11 = .slice (some ⟨g, 0, none⟩) s.offs.length cap ∧ v12 = .int .i64 (i : Int) ∧ Hid (wr.ownsRow w.heap.size 2 1 (Value.slice (some ⟨g, 0, none⟩) s.offs.length cap) s.offs.length (s.offs.map intV) ∧ Below w.heap.size w wr ∧ plL T s (fields.drop i) = R ∧ PSok s i)) (fun _ _ _ _ v12 _ => n - (intOf v12).toNat)
  case atStart => exact ⟨0, ⟨0, 1, false, []⟩, w.heap.size, 0, by omega, rfl, rfl, rfl, rfl, rfl, H0.out.1, H0.out.2, HR.out, by simp [PSok]⟩
  case round =>
    clear H0 HR mk
    obtain ⟨i, s, g, cap, hi, rfl, rfl, rfl, rfl, rfl, HI⟩ := hrel
    have d1 := keep_cell HI.out.2.1 c1
    by_cases hin : i < n
    · have j0 : (0 : Int) ≤ i := by omega
      have j1 : (i : Int) < n := by omega
      have hfg := List.getElem?_eq_getElem (l := fields) (i := i) (by rw [HNL.out]; exact hin)
      obtain ⟨f, hfe⟩ : ∃ f, fields[i]'(by rw [HNL.out]; exact hin) = f := ⟨_, rfl⟩
      rw [hfe] at hfg
      clear hfe
      obtain ⟨fb, fo, rfl, hcc⟩ := HFC.out (fun e => by rw [e] at hfg; simp at hfg)
      have t0 := keep_cell HI.out.2.1 (hcc i f hfg).1
      have hty : f.typ.size ≤ 281474976710656 := (HFS.out.1 f (List.mem_of_getElem? hfg)).2
      have HST : Hid (f.typ.size ≤ 281474976710656) := hty
      have HL : Hid ((if (szF T f.typ).2.2 = 5 then none else plL T (plStep T s f) (fields.drop (i + 1))) = R) := by
        show _ = _
        rw [← HI.out.2.2.1, drop_fd hfg]
        rfl
      have HOK : Hid (PSok s i ∧ PSok (plStep T s f) (i + 1)) := ⟨HI.out.2.2.2, HI.out.2.2.2.step HFS.out.2 f⟩
      clear hcc hfg hty
      go_wp2_with fail
      refine (HZ.out f.typ _ HST.out (HRS.out.keep HI.out.2.1)).mono ?_
      rintro e w3 ⟨rfl, hb3⟩
      dsimp only
      have HB3 : Hid (Below w.heap.size w w3) := bel_trans HI.out.2.1 hb3
      have HO3 : Hid ((w3.alloc (.cells #[.int .i64 (upI s.at_ (szF T f.typ).2.1)] 2)).ownsRow w.heap.size 2 1 (Value.slice (some ⟨g, 0, none⟩) s.offs.length cap) s.offs.length (s.offs.map intV) ∧ s.offs.length ≤ 100000) := by
        refine ⟨owns_of_heap HI.out.1 (fun b hb => ?_), by have := HI.out.2.2.2.2.2.2.2; omega⟩
        have hl := (row_lt HI.out.1 hb).1
        rw [Below.heap_alloc w3 _ b (Nat.lt_of_lt_of_le hl hb3.size)]
        exact hb3.block b hl
      have HO4 : Hid (w3.ownsRow w.heap.size 2 1 (Value.slice (some ⟨g, 0, none⟩) s.offs.length cap) s.offs.length (s.offs.map intV)) := owns_of_heap HI.out.1 (fun b hb => hb3.block b (row_lt HI.out.1 hb).1)
      clear hb3 HI d1 t0
      rcases szF_err T f.typ with he | he | he
      · have hst : plStep T s f = ⟨upI s.at_ (szF T f.typ).2.1 + (szF T f.typ).1, max s.al (szF T f.typ).2.1, s.lim, s.offs ++ [upI s.at_ (szF T f.typ).2.1]⟩ := by
          unfold plStep
          rw [if_pos he]
        have HL3 : Hid (plL T (plStep T s f) (fields.drop (i + 1)) = R) := by
          have h1 := HL.out
          rw [he] at h1
          show _ = _
          simpa using h1
        have hz := szF_ok HFS.out.2 he
        have hps := HOK.out.1
        have HST2 : Hid (plStep T s f = ⟨upI s.at_ (szF T f.typ).2.1 + (szF T f.typ).1, max s.al (szF T f.typ).2.1, s.lim, s.offs ++ [upI s.at_ (szF T f.typ).2.1]⟩) := hst
        clear HL hst
        generalize plStep T s f = s' at *
        generalize szF T f.typ = z at *
        obtain ⟨z0, z1, z2⟩ := z
        dsimp only at *
        subst he
        unfold PSok at hps
        have hu := upI_range hps.1 hz.2.2.1
        have e1 : (s.at_ + z1 - 1).tdiv z1 = (s.at_ + z1 - 1) / z1 := Int.tdiv_eq_ediv_of_nonneg (by omega)
        have hne : ¬ z1 = 0 := by omega
        have e3 : (s.at_ + z1 - 1) / z1 ≤ s.at_ + z1 - 1 := Int.ediv_le_self _ (by omega)
        have e2 : 0 ≤ (s.at_ + z1 - 1) / z1 := Int.ediv_nonneg (by omega) (by omega)
        obtain ⟨u, hue⟩ : ∃ u, upI s.at_ z1 = u := ⟨_, rfl⟩
        rw [hue] at hu HO3 HST2
        have hq : wrap64 ((s.at_ + z1 - 1) / z1 * z1) = u := by
          rw [← hue]
          unfold upI at hue ⊢
          unfold wrap64
          omega
        have wa : wrap64 (s.at_ + z1) = s.at_ + z1 := by unfold wrap64; omega
        have wb : wrap64 (s.at_ + z1 - 1) = s.at_ + z1 - 1 := by unfold wrap64; omega
        have wc : wrap64 ((s.at_ + z1 - 1) / z1) = (s.at_ + z1 - 1) / z1 := by unfold wrap64; omega
        have wd : wrap64 (u + z0) = u + z0 := by unfold wrap64; omega
        have q40 : decide (1099511627776 < u + z0) = false := by simp; omega
        generalize (s.at_ + z1 - 1) / z1 = qq at *
        have HB0 : Hid (0 ≤ s.at_ ∧ s.at_ ≤ 655440 ∧ 1 ≤ z1 ∧ z1 ≤ 8 ∧ 0 ≤ qq ∧ qq ≤ s.at_ + z1 - 1) := ⟨hps.1, by omega, hz.2.2.1, hz.2.2.2, e2, e3⟩
        have HWD : Hid (wrap64 (u + z0) = u + z0) := wd
        clear hue hps hu
        go_wp2_with (at_builtin; refine wpList_append_lies _ (by rfl) _ _ 45 (by rfl) w.heap.size 2 i0 (.int .i64 0) 1 8 Tryd.underlying45 HIN.out.1 HIN.out.2.1 HIN.out.2.2.1 HIN.out.2.2.2 rfl (by omega) (.slice (some ⟨g, 0, none⟩) s.offs.length cap) s.offs.length (s.offs.map intV) (by rfl) (HO3.out.1) ⟨w3.heap.size, 0, none⟩ 1 1 [.int .i64 u] (by rfl) (by rfl) (World.news_of_block (heap_new w3 _)) (by intro y hy; simp at hy; subst hy; rfl) (by omega) (by have := HO3.out.2; unfold maxLen; omega) (by have := HO3.out.2; omega) (by have := HB3.out.size; rw [World.size_alloc]; omega) (w3.heap.size + 1) (by simp) ?_)
        intro g2 cap2 w4 hown hgrow hat hlt
        have HQ : Hid (w4.ownsRow w.heap.size 2 1 (.slice (some ⟨g2, 0, none⟩) (s.offs.length + 1) cap2) (s.offs.length + 1) (s.offs.map intV ++ [.int .i64 u]) ∧ Below w.heap.size w w4) := ⟨hown, (bel_alloc HB3.out _).grown hgrow (by rw [World.size_alloc]; have := HB3.out.size; omega) (fun b hb => (row_lt HO3.out.1 hb).2)⟩
        clear hown hgrow hat hlt HO3 HB3 HO4
        by_cases hmx : s.al < z1
        · have qm : decide (s.al < z1) = true := by simpa using hmx
          go_wp2
          go_roundw
          case rel =>
            refine ⟨i + 1, s', g2, cap2, by omega, ?_, ?_, ?_, ?_, by simp, ?_, HQ.out.2, HL3.out, HOK.out.2⟩
            · rw [HST2.out]; dsimp only; rw [HWD.out]
            · rw [HST2.out]; dsimp only; congr 1; omega
            · rw [HST2.out]
            · rw [HST2.out]; simp
            · rw [HST2.out]; simpa [intV] using HQ.out.1
          case measure => simp [intOf]; omega
        · have qm : decide (s.al < z1) = false := by simpa using hmx
          go_wp2
          go_roundw
          case rel =>
            refine ⟨i + 1, s', g2, cap2, by omega, ?_, ?_, ?_, ?_, by simp, ?_, HQ.out.2, HL3.out, HOK.out.2⟩
            · rw [HST2.out]; dsimp only; rw [HWD.out]
            · rw [HST2.out]; dsimp only; congr 1; omega
            · rw [HST2.out]
            · rw [HST2.out]; simp
            · rw [HST2.out]; simpa [intV] using HQ.out.1
          case measure => simp [intOf]; omega
      · have hst : plStep T s f = ⟨s.at_, s.al, true, s.offs⟩ := by
          unfold plStep
          rw [if_neg (by rw [he]; decide)]
        have HL3 : Hid (plL T (plStep T s f) (fields.drop (i + 1)) = R) := by
          have h1 := HL.out
          rw [he] at h1
          show _ = _
          simpa using h1
        have HST2 : Hid (plStep T s f = ⟨s.at_, s.al, true, s.offs⟩) := hst
        clear HL hst HO3
        generalize plStep T s f = s' at *
        generalize szF T f.typ = z at *
        obtain ⟨z0, z1, z2⟩ := z
        dsimp only at *
        subst he
        go_wp2
        go_roundw
        case rel =>
          refine ⟨i + 1, s', g, cap, by omega, ?_, ?_, ?_, ?_, by simp, ?_, HB3.out, HL3.out, HOK.out.2⟩
          · rw [HST2.out]
          · rw [HST2.out]
          · rw [HST2.out]
          · rw [HST2.out]
          · rw [HST2.out]; exact HO4.out
        case measure => simp [intOf]; omega
      · obtain rfl : R = none := by have := HL.out; rw [if_pos he] at this; exact this.symm
        obtain ⟨rfl, rfl, rfl, rfl⟩ : (5 : Int) = r0 ∧ [] = r1 ∧ (0 : Int) = r2 ∧ (0 : Int) = r3 := by simpa [plO] using HX.out
        clear HL HX HO3 HO4 HOK
        generalize szF T f.typ = z at *
        obtain ⟨z0, z1, z2⟩ := z
        dsimp only at *
        subst he
        go_wp2
        exact end_P (.slice none 0 0) (by simp [results, Tryd.results16, go_sem, *]) rfl (OffAt.nil _) HB3.out
    · have hie : i = n := by omega
      obtain rfl : R = some s := by
        have h1 := HI.out.2.2.1
        rw [hie, List.drop_of_length_le (by rw [HNL.out]; omega)] at h1
        exact h1.symm
      subst hie
      have hps := HI.out.2.2.2
      unfold PSok at hps
      have hu := upI_range hps.1 hps.2.2.1
      have e1 : (s.at_ + s.al - 1).tdiv s.al = (s.at_ + s.al - 1) / s.al := Int.tdiv_eq_ediv_of_nonneg (by omega)
      have hne : ¬ s.al = 0 := by omega
      have e3 : (s.at_ + s.al - 1) / s.al ≤ s.at_ + s.al - 1 := Int.ediv_le_self _ (by omega)
      have e2 : 0 ≤ (s.at_ + s.al - 1) / s.al := Int.ediv_nonneg (by omega) (by omega)
      have HX2 : Hid ((if (s.lim || decide (65536 < upI s.at_ s.al)) = true then ((2 : Int), ([] : List Int), (0 : Int), (0 : Int)) else (0, s.offs, upI s.at_ s.al, s.al)) = (r0, r1, r2, r3)) := HX.out
      obtain ⟨u, hue⟩ : ∃ u, upI s.at_ s.al = u := ⟨_, rfl⟩
      rw [hue] at hu HX2
      have hq : wrap64 ((s.at_ + s.al - 1) / s.al * s.al) = u := by
        rw [← hue]
        unfold upI at hue ⊢
        unfold wrap64
        omega
      have wa : wrap64 (s.at_ + s.al) = s.at_ + s.al := by unfold wrap64; omega
      have wb : wrap64 (s.at_ + s.al - 1) = s.at_ + s.al - 1 := by unfold wrap64; omega
      have wc : wrap64 ((s.at_ + s.al - 1) / s.al) = (s.at_ + s.al - 1) / s.al := by unfold wrap64; omega
      generalize (s.at_ + s.al - 1) / s.al = qq at *
      have HOF : Hid (OffAt wr (Value.slice (some ⟨g, 0, none⟩) s.offs.length cap) s.offs ∧ Below w.heap.size w wr) := ⟨owns_off HI.out.1 (by omega), HI.out.2.1⟩
      have hb1 := hps.1
      have hb2 := hps.2.1
      have hb3 := hps.2.2.1
      have hb4 := hps.2.2.2.1
      clear HX HI hue hps hu
      cases hlm : s.lim
      · rw [hlm] at HX2
        by_cases hgt : 65536 < u
        · have q9 : decide (65536 < u) = true := by simpa using hgt
          rw [q9] at HX2
          obtain ⟨rfl, rfl, rfl, rfl⟩ : (2 : Int) = r0 ∧ [] = r1 ∧ (0 : Int) = r2 ∧ (0 : Int) = r3 := by simpa using HX2.out
          clear HX2
          go_wp2
          exact end_P (.slice none 0 0) (by simp [results, Tryd.results16, go_sem, *]) rfl (OffAt.nil _) HOF.out.2
        · have q9 : decide (65536 < u) = false := by simpa using hgt
          rw [q9] at HX2
          obtain ⟨rfl, rfl, rfl, rfl⟩ : (0 : Int) = r0 ∧ s.offs = r1 ∧ u = r2 ∧ s.al = r3 := by simpa using HX2.out
          clear HX2
          go_wp2
          exact end_P (Value.slice (some ⟨g, 0, none⟩) s.offs.length cap) (by simp [results, Tryd.results16, go_sem, *]) rfl HOF.out.1 HOF.out.2
      · rw [hlm] at HX2
        obtain ⟨rfl, rfl, rfl, rfl⟩ : (2 : Int) = r0 ∧ [] = r1 ∧ (0 : Int) = r2 ∧ (0 : Int) = r3 := by simpa using HX2.out
        clear HX2
        go_wp2
        exact end_P (.slice none 0 0) (by simp [results, Tryd.results16, go_sem, *]) rfl (OffAt.nil _) HOF.out.2
end Go.Proofs.YtpedfnfangaelaaDoor

