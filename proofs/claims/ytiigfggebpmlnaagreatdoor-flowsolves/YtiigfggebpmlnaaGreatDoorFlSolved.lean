/- Package flow: the least numbers over edges. -/
import Derived.Test.YtiigfggebpmlnaaGreatDoorFlNI
namespace Go.Proofs.YtiigfggebpmlnaaGreatDoor
open Go.ChangeShapes Go.WideShapes Go.ChangeAt Go.RowKit
set_option linter.unusedSimpArgs false
set_option linter.unusedVariables false

theorem wp_calm {P : Program} {c : Code} {Q : Exit → Act → World → Prop} {a : Act} {w : World} (h : Code.wp P c (fun e a w => e = .normal ∧ Q .normal a w) a w) : Code.wp P c Q a w :=
  Go.wp_mono h (fun e a w hq => by obtain ⟨rfl, h⟩ := hq; exact h)
/-- The answer: new numbers, the least ones. -/
def retL (n : Nat) (es : List (Nat × Nat)) (st : List Int) (w : World) : Ending → World → Prop := fun e W => ∃ LB x, e = .returned (.slice (some ⟨LB, 0, none⟩) n n) ∧ LAt W LB n x ∧ Least n es (fS st) x ∧ Below w.heap.size w W ∧ w.heap.size ≤ LB
set_option maxRecDepth 100000 in
set_option maxHeartbeats 16000000 in
theorem solved_walk (ea : Option Addr) (ne ec sb so n sc : Nat) (es : List (Nat × Nat)) (st : List Int) (w : World) (h0 : 0 < n) (hn : n ≤ 2000) (hne : ne ≤ 1000000) (HNE : Hid (ne = es.length)) (HST : Hid (st.length = n)) (HEL : Hid (EL w (.slice ea ne ec) (upE es))) (HES : Hid (∀ e ∈ es, e.1 < n ∧ e.2 < n))
    (HC : Hid (∀ (i : Nat) (x : Int), st[i]? = some x → w.cell? ⟨sb, so + i, none⟩ = some (.int .i64 x))) :
    Calls Tryz.prog 15 #[.slice ea ne ec, .slice (some ⟨sb, so, none⟩) n sc] w (retL n es st w) := by
  refine callsIn_wide.1 (callsIn_of_wp_marks (n := 3) Tryz.func15 rfl trivial ?_)
  simp only [Tryz.ntmps15, List.size_toArray, List.length_cons, List.length_nil, Nat.reduceAdd, Nat.reduceSub, Array.replicate_succ, Array.replicate_zero, List.push_toArray, List.append_toArray, List.nil_append, List.cons_append]
  refine wpIn_wide.2 ?_
  have mk1 := mk_rows n (by omega)
  have mk2 := mk_ints n (by omega)
  have hsb : sb < w.heap.size := block_lt_of_cell (HC.out 0 (fS st 0) (by unfold fS; rw [List.getD_eq_getElem?_getD, List.getElem?_eq_getElem (by rw [HST.out]; exact h0)]; rfl))
  go_wp2
  have HNI0 : Hid (NI w.heap.size (w.heap.size + 1) n (fun _ => .slice none 0 0) (gOf (es.take 0)) ((w.alloc (.cells #[.slice (some ⟨sb, so, none⟩) n sc] 23)).alloc (.cells (madeCells #[.slice none 0 0] n) 23))) := by
    refine NI.ext (NI.start _ _ _ _ (fun i hi => ?_)) (fun i => by simp [gOf])
    have := made_at (w.alloc (.cells #[.slice (some ⟨sb, so, none⟩) n sc] 23)) (.slice none 0 0) n 23 i hi
    rw [World.size_alloc] at this
    exact this
  have HB0 : Hid (Below w.heap.size w ((w.alloc (.cells #[.slice (some ⟨sb, so, none⟩) n sc] 23)).alloc (.cells (madeCells #[.slice none 0 0] n) 23))) := bel_alloc (bel_alloc (Below.refl _ _) _) _
  have HS0 : Hid (((w.alloc (.cells #[.slice (some ⟨sb, so, none⟩) n sc] 23)).alloc (.cells (madeCells #[.slice none 0 0] n) 23)).cell? ⟨w.heap.size, 0, none⟩ = some (.slice (some ⟨sb, so, none⟩) n sc)) := keep_alloc (cell_new2 w _ _ _ rfl) _
  go_loopw [20] (fun v20 wz => ∃ i : Nat, i ≤ ne ∧ v20 = .int .i64 i ∧ Hid (∃ rv, NI w.heap.size (w.heap.size + 1) n rv (gOf (es.take i)) wz ∧ Below w.heap.size w wz ∧ wz.cell? ⟨w.heap.size, 0, none⟩ = some (.slice (some ⟨sb, so, none⟩) n sc) ∧ ∀ k, k < n → some w.heap.size ≠ (rv k).ownBlock)) (fun v20 _ => ne - (intOf v20).toNat)
  case atStart => exact ⟨0, by omega, rfl, _, HNI0.out, HB0.out, HS0.out, fun k _ => by simp [Value.ownBlock]⟩
  case round =>
    clear HNI0 HB0 HS0
    obtain ⟨i, hi, rfl, HR⟩ := hrel
    rename World => wz
    obtain ⟨rv, hni, hbw, hsc, hso⟩ := HR.out
    have HNI := hid hni
    have HBW := hid hbw
    have HSC := hid hsc
    have HSO := hid hso
    clear HR hni hbw hsc hso
    by_cases hin : i < ne
    · have j0 : (0 : Int) ≤ i := by omega
      have j1 : (i : Int) < ne := by omega
      have hget := List.getElem?_eq_getElem (l := es) (show i < es.length by rw [← HNE.out]; exact hin)
      generalize es[i]'(by rw [← HNE.out]; exact hin) = xt at hget
      obtain ⟨x, t⟩ := xt
      have hxt := HES.out (x, t) (List.mem_of_getElem? hget)
      obtain ⟨a2, c2, hv2, _, _, h2⟩ := HEL.out
      obtain ⟨eb, eo, rfl, hce⟩ := h2 (fun e => by
        have := congrArg List.length e
        simp [upE] at this
        rw [this] at hget
        simp at hget)
      injection hv2 with q1 q2 q3
      subst q1
      have hge : (upE es)[i]? = some ((x : Int), (t : Int)) := by unfold upE; rw [List.getElem?_map, hget]; rfl
      have ce0 := keep_cell HBW.out (hce i _ hge).1
      have ce1 := keep_cell HBW.out (hce i _ hge).2
      dsimp only at ce0 ce1
      have HGET := hid hget
      clear hget hce h2 q2 q3 hge
      go_upto_region 5 with fail
      obtain ⟨w1, hw1⟩ : ∃ w1, wz.alloc (.cells #[.int .i64 x, .int .i64 t] 28) = w1 := ⟨_, rfl⟩
      have hw1s : w1.heap.size = wz.heap.size + 1 := by rw [← hw1, World.size_alloc]
      have hbz : Below wz.heap.size wz w1 := by rw [← hw1]; exact bel_alloc (Below.refl _ _) _
      have c0 : w1.cell? ⟨wz.heap.size, 0, none⟩ = some (.int .i64 x) := by rw [← hw1]; simp
      have c1 : w1.cell? ⟨wz.heap.size, 1, none⟩ = some (.int .i64 t) := by rw [← hw1]; simp
      have hni1 := HNI.out.of hbz
      have hsc1 := keep_cell hbz HSC.out
      have hbw1 := bel_trans HBW.out hbz
      have hwz := HBW.out.size
      have hx1 : x < n := hxt.1
      obtain ⟨k, hk⟩ : ∃ k, (gOf (es.take i) x).length = k := ⟨_, rfl⟩
      have hk6 : k ≤ 1000000 := by
        have := gOf_length (es.take i) x
        rw [List.length_take] at this
        omega
      obtain ⟨ra, rc, hrv⟩ : ∃ ra rc, rv x = .slice ra k rc := by
        rcases (hni1.own x hx1).2 with ⟨e1, e2⟩ | ⟨g, cap, cur, e1, _⟩
        · exact ⟨none, 0, by rw [e1, ← hk, e2]⟩
        · exact ⟨_, cap, by rw [e1, hk]⟩
      have hown := hni1.own x hx1
      have hcx := hni1.cell x hx1
      have hnx := hni1.ne x hx1
      have hsx := HSO.out x hx1
      have hlt := hown.lt
      rw [hrv] at hcx hown hnx hsx hlt
      rw [hk] at hown
      have hNBl : w.heap.size + 1 < wz.heap.size := block_lt_of_cell (HNI.out.cell x hx1).1
      rw [hw1]
      refine wp_calm ?_
      refine sv_r5 (w.heap.size + 1) n n wz.heap.size w.heap.size x t k rc ra (ints (up (gOf (es.take i) x))) _ _ _ _ _ _ _ _ _ _ _ _ _ _ _ _ _ _ _ _ _ _ _ _ _ _ _ _ _ _ _ _ _ _ _ _ _ _ _ _ _ _ _ _ _ _ _ _ _ _ _ _ _ _ _ _ _ _ _ _ _ _ _ _ _ _ _ _ _ _ _ _ _ _ _ _ _  _ w1 (fun c a dd v x h => by cases h.1) c0 c1 hcx.1 hcx.2 (by omega) (by have := hx1; omega) hk6 (hid hown) (hid (by omega)) (hid hnx) (hid (fun e => by
        rcases (HNI.out.own x hx1).2 with ⟨e1, _⟩ | ⟨g, cap, cur, e1, _, e3, _⟩
        · rw [hrv] at e1; rw [e1] at e; cases e
        · rw [hrv] at e1
          rw [e1] at e
          have hg : wz.heap.size = g := by simpa [Value.ownBlock] using e
          have := (Array.getElem?_eq_some_iff.1 e3).1
          omega)) (hid (by omega)) ?_
      intro y24 y25 y26 y27 y28 y29 y30 y31 y32 y33 y34 y35 y36 a2 c2 w3 ho hg hb
      have HNI2 : Hid (NI w.heap.size (w.heap.size + 1) n (setR rv x (.slice a2 (k + 1) c2)) (gOf (es.take (i + 1))) (w3.setCell ⟨w.heap.size + 1, x, none⟩ (.slice a2 (k + 1) c2))) := by
        refine NI.ext (hni1.push hx1 (by rw [hk]; exact ho) (by rw [hrv]; exact hg) (by rw [hrv]; exact hb) (Nat.le_succ _)) (fun j => gOf_take HGET.out j)
      have hgs := hg.size
      have HB2 : Hid (Below w.heap.size w (w3.setCell ⟨w.heap.size + 1, x, none⟩ (.slice a2 (k + 1) c2))) := (hbw1.grown hg hbw1.size (fun q hq => (hlt q hq).1)).setCell (Nat.le_succ _) _
      have HS2 : Hid ((w3.setCell ⟨w.heap.size + 1, x, none⟩ (.slice a2 (k + 1) c2)).cell? ⟨w.heap.size, 0, none⟩ = some (.slice (some ⟨sb, so, none⟩) n sc)) := keep_set (hg.cell hsc1 hsx) (by show w.heap.size ≠ w.heap.size + 1; omega)
      have HO2 : Hid (∀ q, q < n → some w.heap.size ≠ (setR rv x (.slice a2 (k + 1) c2) q).ownBlock) := fun q hq => by
        unfold setR
        by_cases e : q = x
        · rw [if_pos e]
          rcases hb with z | z
          · rw [z]; exact hsx
          · rw [z]; intro e2; injection e2 with e2; omega
        · rw [if_neg e]; exact HSO.out q hq
      clear ho hg hb hni1 hsc1 hbw1 hown hcx hnx hsx hlt c0 c1 hbz hw1 ce0 ce1 hgs
      refine ⟨rfl, ?_⟩
      dsimp only
      go_wp2
      go_roundw
      case rel => exact ⟨i + 1, by omega, by simp, _, HNI2.out, HB2.out, HS2.out, HO2.out⟩
      case measure => simp [intOf]; omega
    · obtain rfl : ne = i := by omega
      have hti : es.take ne = es := by rw [HNE.out, List.take_length]
      rw [hti] at HNI
      obtain ⟨FB, hFB⟩ : ∃ FB, FB = wz.heap.size := ⟨_, rfl⟩
      have HFB := hid hFB
      have hsc := HSC.out
      have hmf : ∀ (fn : Go.Fn) (first cap : Array Value) (w : World), (Instr.makeFunc fn first cap).run Tryz.prog w = .ok (.func fn first cap) w := fun _ _ _ _ => rfl
      have hwz := HBW.out.size
      have hNBl : w.heap.size + 1 < wz.heap.size := block_lt_of_cell (HNI.out.cell 0 h0).1
      go_wp2
      have HF0 : Hid (Below wz.heap.size wz (wz.alloc (.cells (madeCells #[.int .i64 0] n) 3)) ∧ (wz.alloc (.cells (madeCells #[.int .i64 0] n) 3)).heap.size = wz.heap.size + 1 ∧ ∀ j, j < n → (wz.alloc (.cells (madeCells #[.int .i64 0] n) 3)).cell? ⟨wz.heap.size, j, none⟩ = some (.int .i64 (if j < 0 then (j : Int) else 0)) ∧ (wz.alloc (.cells (madeCells #[.int .i64 0] n) 3)).frozen? ⟨wz.heap.size, j, none⟩ = false) :=
        ⟨bel_alloc (Below.refl _ _) _, World.size_alloc _ _, fun j hj => by rw [if_neg (by omega)]; exact made_at wz (.int .i64 0) n 3 j hj⟩
      go_loopw [43] (fun v43 wr => ∃ i : Nat, i ≤ n ∧ v43 = .int .i64 i ∧ Hid (Below wz.heap.size wz wr ∧ wr.heap.size = wz.heap.size + 1 ∧ ∀ j, j < n → wr.cell? ⟨wz.heap.size, j, none⟩ = some (.int .i64 (if j < i then (j : Int) else 0)) ∧ wr.frozen? ⟨wz.heap.size, j, none⟩ = false)) (fun v43 _ => n - (intOf v43).toNat)
      case atStart => exact ⟨0, by omega, rfl, HF0.out⟩
      case round =>
        clear HF0 hsc
        obtain ⟨i, hi2, rfl, HR⟩ := hrel
        rename World => wr
        by_cases hin2 : i < n
        · have j0 : (0 : Int) ≤ i := by omega
          have j1 : (i : Int) < n := by omega
          have hci := HR.out.2.2 i hin2
          rw [if_neg (by omega)] at hci
          obtain ⟨hc1, hc2⟩ := hci
          have HR2 : Hid (Below wz.heap.size wz (wr.setCell ⟨wz.heap.size, i, none⟩ (.int .i64 i)) ∧ (wr.setCell ⟨wz.heap.size, i, none⟩ (.int .i64 i)).heap.size = wz.heap.size + 1 ∧ ∀ j, j < n → (wr.setCell ⟨wz.heap.size, i, none⟩ (.int .i64 i)).cell? ⟨wz.heap.size, j, none⟩ = some (.int .i64 (if j < i + 1 then (j : Int) else 0)) ∧ (wr.setCell ⟨wz.heap.size, i, none⟩ (.int .i64 i)).frozen? ⟨wz.heap.size, j, none⟩ = false) := by
            refine ⟨HR.out.1.setCell (Nat.le_refl _) _, by rw [gsize_set]; exact HR.out.2.1, fun j hj => ⟨?_, by rw [World.frozen?_setCell]; exact (HR.out.2.2 j hj).2⟩⟩
            by_cases e : j = i
            · subst e
              rw [if_pos (by omega)]
              exact World.cell?_setCell_same _ _ _ hc1
            · rw [World.cell?_setCell_other _ _ _ _ (fun e2 => e (by cases e2; rfl)), (HR.out.2.2 j hj).1]
              by_cases e2 : j < i
              · rw [if_pos e2, if_pos (by omega)]
              · rw [if_neg e2, if_neg (by omega)]
          go_wp2
          go_roundw
          case rel => exact ⟨i + 1, by omega, by simp, HR2.out⟩
          case measure => simp [intOf]; omega
        · obtain rfl : n = i := by omega
          have hbr := HR.out.1
          have hsr := HR.out.2.1
          have hfr : ∀ j : Nat, j < n → wr.cell? ⟨wz.heap.size, j, none⟩ = some (.int .i64 j) ∧ wr.frozen? ⟨wz.heap.size, j, none⟩ = false := fun j hj => by
            have := HR.out.2.2 j hj
            rw [if_pos hj] at this
            exact this
          have hbwr : Below w.heap.size w wr := HBW.out.trans (hbr.mono hwz)
          have hS := sort_any wz.heap.size w.heap.size sb so n sc st wr h0 (by omega) HST.out (keep_cell hbr HSC.out) (fun i x hx => keep_cell hbwr (HC.out i x hx)) hfr (by omega) (by omega)
          have HSORT := hid hS
          have HBWR := hid hbwr
          have HBR := hid hbr
          clear hS hbwr hbr hfr HR
          have NS5 := newSearch_any (w.heap.size + 1) n n (by omega)
          go_wp2_with (first | (go_at_call 23; refine HSORT.out.mono ?_; rintro e w4 ⟨rfl, hg4, od, hod1, hod2, hod3⟩; have hs4 := hg4.size; have HG4 := hid hg4; have HOD1 := hid hod1; have HOD2 := hid hod2; have HOD3 := hid hod3; have hsc4 : w4.cell? ⟨w.heap.size, 0, none⟩ = some (.slice (some ⟨sb, so, none⟩) n sc) := hg4.cell (keep_cell HBR.out HSC.out) (by simp; omega); clear hg4 hod1 hod2 hod3 HSORT) | (go_at_call 26; refine (NS5 _).mono ?_; rintro e w5 ⟨rfl, rfl⟩))
          have hlo : wz.heap.size < w4.heap.size := by omega
          have hod1 := HOD1.out
          have HODX : Hid (od.length = n ∧ (∀ x ∈ od, x < n) ∧ ∀ (i j x y : Nat), i < j → od[i]? = some x → od[j]? = some y → fS st y ≤ fS st x) :=
            ⟨by rw [hod1.length_eq, List.length_range], fun x hx => by have := (hod1.mem_iff).1 hx; simpa using this, HOD2.out⟩
          have hrb : ∀ i, i < n → ∀ b o s k c, rv i = .slice (some ⟨b, o, s⟩) k c → b < wz.heap.size := fun i hi b o s k c e => ((HNI.out.own i hi).lt b (by rw [e]; rfl)).2
          have HAPX : Hid (Ap w w.heap.size (w.heap.size + 1) wz.heap.size (w4.heap.size + 1) w4.heap.size (w4.heap.size + 1 + 1) (w4.heap.size + 1 + 1 + 1) n sb rv) :=
            ⟨⟨by omega, by omega, by omega, by omega, by omega, by omega⟩, ⟨by omega, by omega, by omega, by omega, by omega, by omega, by omega⟩, fun i hi b o s k c e => ⟨by have := hrb i hi b o s k c e; omega, by have := hrb i hi b o s k c e; omega⟩, ⟨by omega, by omega⟩⟩
          have HELX : Hid (es.length ≤ 1000000) := hid (by rw [← HNE.out]; exact hne)
          have hl1 : ((w4.alloc (.cells (madeCells #[.int .i64 0] n) 3))).heap.size = w4.heap.size + 1 := World.size_alloc _ _
          have hL3 : L3 w w.heap.size (w.heap.size + 1) wz.heap.size (w4.heap.size + 1) w4.heap.size (w4.heap.size + 1 + 1) (w4.heap.size + 1 + 1 + 1) n sb so sc st es rv od 0 [] ((((w4.alloc (.cells (madeCells #[.int .i64 0] n) 3)).alloc (.cells #[.slice (some ⟨w4.heap.size, 0, none⟩) n n] 23)).alloc (.cells (madeCells #[.bool false] n) 4)).alloc (.cells #[.slice (some ⟨w.heap.size + 1, 0, none⟩) n n, .slice (some ⟨w4.heap.size + 1 + 1, 0, none⟩) n n] 75)) := by
            obtain ⟨W1, hW1⟩ : ∃ W1, w4.alloc (.cells (madeCells #[.int .i64 0] n) 3) = W1 := ⟨_, rfl⟩
            obtain ⟨W2, hW2⟩ : ∃ W2, W1.alloc (.cells #[.slice (some ⟨w4.heap.size, 0, none⟩) n n] 23) = W2 := ⟨_, rfl⟩
            obtain ⟨W3, hW3⟩ : ∃ W3, W2.alloc (.cells (madeCells #[.bool false] n) 4) = W3 := ⟨_, rfl⟩
            obtain ⟨W5, hW5⟩ : ∃ W5, W3.alloc (.cells #[.slice (some ⟨w.heap.size + 1, 0, none⟩) n n, .slice (some ⟨w4.heap.size + 1 + 1, 0, none⟩) n n] 75) = W5 := ⟨_, rfl⟩
            rw [hW1, hW2, hW3, hW5]
            have s1 : W1.heap.size = w4.heap.size + 1 := by rw [← hW1, World.size_alloc]
            have s2 : W2.heap.size = w4.heap.size + 1 + 1 := by rw [← hW2, World.size_alloc, s1]
            have s3 : W3.heap.size = w4.heap.size + 1 + 1 + 1 := by rw [← hW3, World.size_alloc, s2]
            have b35 : Below W3.heap.size W3 W5 := by rw [← hW5]; exact bel_alloc (Below.refl _ _) _
            have b25 : Below W2.heap.size W2 W5 := bel_trans (by rw [← hW3]; exact bel_alloc (Below.refl _ _) _) b35
            have b15 : Below W1.heap.size W1 W5 := bel_trans (by rw [← hW2]; exact bel_alloc (Below.refl _ _) _) b25
            have b45 : Below w4.heap.size w4 W5 := bel_trans (by rw [← hW1]; exact bel_alloc (Below.refl _ _) _) b15
            have hg := HG4.out
            have kc : ∀ {b o v}, wr.cell? ⟨b, o, none⟩ = some v → b ≠ wz.heap.size → W5.cell? ⟨b, o, none⟩ = some v := fun h hb => keep_cell b45 (hg.cell h (by intro e; injection e with e; exact hb e))
            have hm0 : MetAt W3 (w4.heap.size + 1 + 1) n (fun _ => false) := fun i hi => by
              have := made_at W2 (.bool false) n 4 i hi
              rw [hW3, s2] at this
              exact this
            have hl0 : LAt W1 w4.heap.size n (fun _ => 0) := fun i hi => by
              have := made_at w4 (.int .i64 0) n 3 i hi
              rw [hW1] at this
              exact this
            refine ⟨fun _ => false, fun _ => 0, ?_, hm0.of (b35.block _ (by omega)), hl0.of (fun _ => b15.block _ (by omega)), PV.start n es (fS st) _ _ (fun i hi => by rw [List.drop_zero]; exact (hod1.mem_iff).2 (by simpa using hi)), List.nodup_nil, fun d hd => by cases hd⟩
            exact {
              bel := (HBWR.out.grown hg HBWR.out.size (fun q hq => by injection hq with hq; omega)).trans (b45.mono (by omega))
              cS := kc (keep_cell HBR.out HSC.out) (by omega)
              cst := fun i x hx => kc (keep_cell HBWR.out (HC.out i x hx)) (by omega)
              cod := fun i x hx => keep_cell b45 (HOD3.out i x hx)
              cL := keep_cell b25 (by rw [← hW2]; exact cell_new2 W1 _ _ _ s1)
              x0 := by rw [← hW5, ← s3]; simp
              x1 := by rw [← hW5, ← s3]; simp
              rows := fun i hi => ⟨kc (keep_cell HBR.out (HNI.out.cell i hi).1) (by omega), by
                have h1 : IL wz (rv i) (up (gOf es i)) := IL.own (by rw [up_length]; exact HNI.out.own i hi) (by rw [up_length]; have := gOf_length es i; have := HELX.out; omega)
                exact ((h1.keep HBR.out).of2 (fun b o s k c e h => hg.block b h (by intro e2; injection e2 with e2; have := hrb i hi b o s k c e; omega))).keep b45⟩ }
          have HL3X := hid hL3
          clear hL3 hod1
          refine l3_loop w w.heap.size (w.heap.size + 1) wz.heap.size (w4.heap.size + 1) w4.heap.size (w4.heap.size + 1 + 1) (w4.heap.size + 1 + 1 + 1) n sb so sc st es rv od _ _ _ _ _ _ _ _ _ _ _ _ _ _ _ _ _ _ _ _ _ _ _ _ _ _ _ _ _ _ _ _ _ _ _ _ _ _ _ _ _ _ _ _ _ _ _ _ _ _ _ _ _ _ _  _ _ _ _ _ _ _ _ _ _ _ _ _ _ _ _ _ _  _ _ (by omega) HES HELX HST HODX HAPX HL3X ?_
          intro ms v13 v14 v62 v63 v64 v65 v66 v67 v68 v69 v70 v71 v72 v73 v74 v75 v76 v77 W' hL
          obtain ⟨m, x, hfx, _, hla, hpv, hms, hdf⟩ := hL
          have hcl := hfx.cL
          have HFX := hid hfx
          have HLA := hid hla
          have HLE : Hid (Least n es (fS st) x) := by
            have h := hpv
            rw [List.drop_of_length_le (by rw [HODX.out.1]; exact Nat.le_refl _)] at h
            exact h.least HES.out
          have HMS := hid hms
          have HDF := hid hdf
          clear hfx hla hpv hms hdf
          go_wp2
          refine leaves_marks ms W' HMS.out (fun d hd => (HDF.out d hd).1) ?_
          intro W6 h1 h2 h3 h4 h5
          have hfb := HFX.out.bel
          refine ⟨_, (by simp [results, Tryz.results15, go_sem]), w4.heap.size, x, rfl, HLA.out.of (fun _ => h1 _ (fun hd => (HDF.out _ hd).2.2.1 rfl)), HLE.out, ⟨h2.trans hfb.os, h3.trans hfb.tape, h4.trans hfb.output, by rw [h5]; exact hfb.size, fun k hk => (h1 k (fun hd => by have := (HDF.out _ hd).2.2.2; omega)).trans (hfb.block k hk)⟩, by omega⟩
set_option maxRecDepth 100000 in
set_option maxHeartbeats 8000000 in
theorem solved_none (ea : Option Addr) (ec : Nat) (sa : Option Addr) (sc : Nat) (st : List Int) (w : World) : Calls Tryz.prog 15 #[.slice ea 0 ec, .slice sa 0 sc] w (retL 0 [] st w) := by
  refine callsIn_wide.1 (callsIn_of_wp_marks (n := 3) Tryz.func15 rfl trivial ?_)
  simp only [Tryz.ntmps15, List.size_toArray, List.length_cons, List.length_nil, Nat.reduceAdd, Nat.reduceSub, Array.replicate_succ, Array.replicate_zero, List.push_toArray, List.append_toArray, List.nil_append, List.cons_append]
  refine wpIn_wide.2 ?_
  have mk1 := mk_rows 0 (by omega)
  have mk2 := mk_ints 0 (by omega)
  simp only [Int.ofNat_zero] at mk1 mk2
  have hmf : ∀ (fn : Go.Fn) (first cap : Array Value) (w : World), (Instr.makeFunc fn first cap).run Tryz.prog w = .ok (.func fn first cap) w := fun _ _ _ _ => rfl
  have hso := fun p c fv W => Tryz.slices_SortFunc_none (α := Nat) p c fv W
  have hse := fun NB W => newSearch_any NB 0 0 (by omega) W
  go_wp2
  go_loopw [20] (fun v20 wz => v20 = .int .i64 0 ∧ Hid (Below w.heap.size w wz ∧ wz.cell? ⟨w.heap.size, 0, none⟩ = some (.slice sa 0 sc))) (fun _ _ => 0)
  case atStart => exact ⟨rfl, bel_alloc (bel_alloc (Below.refl _ _) _) _, keep_alloc (cell_new2 w _ _ _ rfl) _⟩
  case round =>
    obtain ⟨rfl, HR⟩ := hrel
    rename World => wz
    have hsc := HR.out.2
    have HBW := hid HR.out.1
    clear HR
    go_wp2
    have hsz : w.heap.size < wz.heap.size := block_lt_of_cell hsc
    have hsc1 := fun o => keep_alloc hsc o
    go_loopw [43] (fun v43 wr => v43 = .int .i64 0 ∧ Hid (Below wz.heap.size wz wr)) (fun _ _ => 0)
    case atStart => exact ⟨rfl, bel_alloc (Below.refl _ _) _⟩
    case round =>
      obtain ⟨rfl, HR⟩ := hrel
      rename World => wr
      have hsc2 := keep_cell HR.out hsc
      have HB2 := hid (bel_trans HBW.out HR.out)
      clear hsc1 HR
      go_wp2_with (first | (go_at_call 23; refine (hso _ _ _ _).mono ?_; rintro e w4 ⟨rfl, rfl⟩) | (go_at_call 26; refine (hse _ _).mono ?_; rintro e w5 ⟨rfl, rfl⟩))
      have HB3 : Hid (Below w.heap.size w ((((w4.alloc (.cells (madeCells #[.int .i64 0] 0) 3)).alloc (.cells #[.slice (some ⟨w4.heap.size, 0, none⟩) 0 0] 23)).alloc (.cells (madeCells #[.bool false] 0) 4)).alloc (.cells #[.slice (some ⟨w.heap.size + 1, 0, none⟩) 0 0, .slice (some ⟨w4.heap.size + 1 + 1, 0, none⟩) 0 0] 75)) ∧ ((((w4.alloc (.cells (madeCells #[.int .i64 0] 0) 3)).alloc (.cells #[.slice (some ⟨w4.heap.size, 0, none⟩) 0 0] 23)).alloc (.cells (madeCells #[.bool false] 0) 4)).alloc (.cells #[.slice (some ⟨w.heap.size + 1, 0, none⟩) 0 0, .slice (some ⟨w4.heap.size + 1 + 1, 0, none⟩) 0 0] 75)).cell? ⟨w4.heap.size + 1, 0, none⟩ = some (.slice (some ⟨w4.heap.size, 0, none⟩) 0 0)) :=
        ⟨bel_alloc (bel_alloc (bel_alloc (bel_alloc HB2.out _) _) _) _, keep_alloc (keep_alloc (cell_new2 _ _ _ _ (World.size_alloc _ _)) _) _⟩
      have hs4 := HB2.out.size
      go_loopw [61] (fun v61 wq => v61 = .int .i64 0 ∧ Hid (Below w.heap.size w wq ∧ wq.cell? ⟨w4.heap.size + 1, 0, none⟩ = some (.slice (some ⟨w4.heap.size, 0, none⟩) 0 0))) (fun _ _ => 0)
      case atStart => exact ⟨rfl, HB3.out⟩
      case round =>
        obtain ⟨rfl, HR⟩ := hrel
        rename World => wq
        have hl := HR.out.2
        have HBQ := hid HR.out.1
        clear HR HB3
        go_wp2
        exact ⟨_, (by simp [results, Tryz.results15, go_sem]), w4.heap.size, fun _ => 0, rfl, (fun i hi => by omega), ⟨fun i hi => by omega, (fun e he => by cases he), fun z _ _ i hi => by omega⟩, HBQ.out, by omega⟩
end Go.Proofs.YtiigfggebpmlnaaGreatDoor

