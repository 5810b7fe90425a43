/- The document's own lexer: Words: its contract. -/
import Derived.Test.YtkbihcicnffjdaaDoorLRefWB
import Derived.Test.YtkbihcicnffjdaaDoorLLaws
namespace Go.Proofs.YtkbihcicnffjdaaDoor
open Go.ChangeShapes Go.WideShapes Go.ChangeAt Go.RowKit
set_option linter.unusedSimpArgs false
set_option linter.unusedVariables false

def rcode (t : ByteArray) : Int := if 65536 < t.size then 2 else if (lexAll t).2 < t.size then 3 else 0
def rpos (t : ByteArray) : Nat × Nat := if 65536 < t.size then (0, 0) else if (lexAll t).2 < t.size then posOf t (lexAll t).2 else (0, 0)
theorem words_at_g {W : World} {base : Nat} {e : TypeId} {v : Value} {t : ByteArray} {l : List (WW × Nat)} (h : W.ownsRow base e 5 v l.length (wordsCells t l)) :
    ∃ a cap, v = .slice a l.length cap ∧ WordsAt W t a cap l := by
  by_cases hne : l = []
  · subst hne
    rcases h.2 with ⟨h1, _⟩ | ⟨g, cap, cur, h1, _⟩
    · exact ⟨none, 0, h1, ⟨Nat.le_refl _, fun h => absurd rfl h⟩⟩
    · exact ⟨_, cap, h1, ⟨Nat.zero_le _, fun h => absurd rfl h⟩⟩
  · rcases h.2 with ⟨_, h2⟩ | ⟨g, cap, cur, h1, h2, h3, h4, h5, h6, h7⟩
    · exact absurd (List.length_eq_zero_iff.1 h2) hne
    · refine ⟨_, cap, h1, ⟨h4, fun _ => ⟨g, rfl, (Array.getElem?_eq_some_iff.1 h3).1, fun i x j hx => ?_⟩⟩⟩
      have hi : i < l.length := (List.getElem?_eq_some_iff.1 hx).1
      have hc : ∀ o, o < 5 → cur[i * 5 + o]? = (wcells x.k x.s x.n (posOf t j).1 (posOf t j).2)[o]? := fun o ho => by
        rw [← wordsCells_get t l i o x j hx ho, ← h7, List.getElem?_take, if_pos (by omega)]
        simp
      exact ⟨heap_cell h3 (by simpa [wcells] using hc 0 (by omega)), heap_cell h3 (by simpa [wcells] using hc 1 (by omega)), heap_cell h3 (by simpa [wcells] using hc 2 (by omega)), heap_cell h3 (by simpa [wcells] using hc 3 (by omega)), heap_cell h3 (by simpa [wcells] using hc 4 (by omega))⟩
theorem make_rw (w : World) : (Instr.makeSlice 31 (.int .i64 0) (.int .i64 0)).run Tryd.prog w = .ok (.slice (some ⟨w.heap.size, 0, none⟩) 0 0) (w.alloc (.cells #[] 34)) := by
  kernel_rfl
/-- What the document's Words answers. -/
def rwordsPost (t : ByteArray) (w : World) : Ending → World → Prop := fun e W => Below w.heap.size w W ∧ ∃ a cap, e = .returned (.tuple #[.slice a (eachList t).length cap, .agg #[.int .i64 ((rpos t).1 : Int), .int .i64 ((rpos t).2 : Int)], .int .i64 (rcode t)]) ∧ WordsAt W t a cap (eachList t)
theorem FaultW.below {w w1 W : World} {H line pc : Nat} (h : FaultW H w1 line pc W) (hb : Below w.heap.size w w1) (hH : H = w.heap.size) : Below w.heap.size w W :=
  ⟨h.os.trans hb.os, h.tape.trans hb.tape, h.output.trans hb.output, Nat.le_trans hb.size h.size, fun k hk => (h.block k (by have := hb.size; omega) (by omega)).trans (hb.block k hk)⟩
theorem then_mono {P : Program} {c : Code} {Q : Exit → Act → World → Prop} {a : Act} {w : World} (h : c.wp P (Exit.then (Q .normal) Q) a w) : c.wp P Q a w := Code.wp_mono (fun e a w q => by cases e <;> exact q) h
theorem made_rw (w : World) : ((w.alloc (.cells #[.int .i64 0, .int .i64 0] 25)).alloc (.cells #[] 34)).ownsRow (w.heap.size + 1) 34 5 (.slice (some ⟨w.heap.size + 1, 0, none⟩) 0 0) 0 [] := by
  have h : ((w.alloc (.cells #[.int .i64 0, .int .i64 0] 25)).alloc (.cells #[] 34)).ownsRow (w.heap.size + 1) 34 5 (.slice (some ⟨(w.alloc (.cells #[.int .i64 0, .int .i64 0] 25)).heap.size, 0, none⟩) 0 0) 0 [] := World.ownsRow_made (w.alloc (.cells #[.int .i64 0, .int .i64 0] 25)) #[] 0 (show w.heap.size + 1 ≤ _ by simp) (by simp) rfl
  rw [World.size_alloc] at h
  exact h
theorem end_RW {P : Program} {fn : Func} {a : Act} {w w' : World} {t : ByteArray} {ad : Option Addr} {cap : Nat} {pl pc c : Int} (hr : (results fn a.tmps).run P w' = .ok (.tuple #[.slice ad (eachList t).length cap, .agg #[.int .i64 pl, .int .i64 pc], .int .i64 c]) w') (hd : a.defers = [])
    (hp : pl = ((rpos t).1 : Int) ∧ pc = ((rpos t).2 : Int) ∧ c = rcode t) (hw : WordsAt w' t ad cap (eachList t)) (hb : Below w.heap.size w w') : bodyPost P fn (rwordsPost t w) .ret a w' := by
  obtain ⟨rfl, rfl, rfl⟩ := hp
  exact bodyPost_ret hr hd ⟨hb, ad, cap, rfl, hw⟩
set_option maxRecDepth 100000 in
set_option maxHeartbeats 8000000 in
theorem rwords_any (t : ByteArray) (w : World) : Calls Tryd.prog 10 #[.string t] w (rwordsPost t w) := by
  go_enter Tryd.func10, Tryd.ntmps10
  have mk := make_rw
  by_cases hts : 65536 < t.size
  · have h1 : (65536 : Int) < (t.size : Int) := by omega
    have el : eachList t = [] := by rw [eachList, if_pos hts]
    go_wp2
    refine end_RW (t := t) (ad := some ⟨w.heap.size + 1, 0, none⟩) (cap := 0) (pl := 0) (pc := 0) (c := 2) ?hr ?hd ?hp ?hw ?hb
    case hr => rw [el]; simp [results, Tryd.results10, go_sem]
    case hd => rfl
    case hp => exact ⟨by rw [rpos, if_pos hts]; rfl, by rw [rpos, if_pos hts]; rfl, by rw [rcode, if_pos hts]⟩
    case hw => rw [el]; exact ⟨Nat.le_refl _, fun h => absurd rfl h⟩
    case hb => (repeat (first | with_reducible exact Below.refl _ _ | with_reducible refine bel_alloc ?_ _ | with_reducible refine bel_set ?_ (by first | exact Nat.le_refl _ | (simp; done) | (simp; omega)) _ | with_reducible refine Below.drew ?_))
  · have h1 : (t.size : Int) ≤ 65536 := by omega
    have HT : Hid (t.size ≤ 65536) := Nat.le_of_not_lt hts
    have el : eachList t = (lexAll t).1 := by rw [eachList, if_neg hts]
    have HE : Hid (eachList t = (lexAll t).1 ∧ rcode t = (if (lexAll t).2 < t.size then 3 else 0) ∧ rpos t = (if (lexAll t).2 < t.size then posOf t (lexAll t).2 else (0, 0))) := ⟨el, by rw [rcode, if_neg hts], by rw [rpos, if_neg hts]⟩
    clear el hts
    go_wp2
    go_loopw [5, 6, 7, 8] (fun v5 v6 v7 v8 wr => ∃ (i line frm : Nat) (pre : List (WW × Nat)), i ≤ t.size ∧ v6 = .int .i64 (line : Int) ∧ v7 = .int .i64 (frm : Int) ∧ v8 = .int .i64 (i : Int) ∧ Hid (PlaceIs t i line frm ∧ lexAll t = (pre ++ (Lx t i).1, (Lx t i).2) ∧ wr.ownsRow (w.heap.size + 1) 34 5 v5 pre.length (wordsCells t pre) ∧ Below (w.heap.size + 1) (w.alloc (.cells #[.int .i64 0, .int .i64 0] 25)) wr)) (fun _ _ _ v8 _ => t.size - (intOf v8).toNat)
    case atStart => exact ⟨0, 1, 0, [], Nat.zero_le _, rfl, rfl, rfl, PlaceIs.zero t, by rw [Lx_all]; rfl, made_rw w, by rw [show w.heap.size + 1 = (w.alloc (.cells #[.int .i64 0, .int .i64 0] 25)).heap.size by simp]; exact (Below.refl _ _).alloc (Nat.le_refl _) _⟩
    case round =>
      obtain ⟨i, line, frm, pre, hi, rfl, rfl, rfl, HI⟩ := hrel
      have i0 : (0 : Int) ≤ (i : Int) := by omega
      have hb0 : Below (w.heap.size + 1) (w.alloc (.cells #[.int .i64 0, .int .i64 0] 25)) wr := HI.out.2.2.2
      have hsz : w.heap.size + 1 ≤ wr.heap.size := by have := hb0.size; simp at this; omega
      have hH : wr.heap[w.heap.size]? = some (.cells #[.int .i64 0, .int .i64 0] 25 (0, 0)) := (hb0.block _ (by omega)).trans (World.alloc_heap_new w _)
      have r0 : wr.cell? ⟨w.heap.size, 0, none⟩ = some (.int .i64 0) := heap_cell hH (by simp)
      have r1 : wr.cell? ⟨w.heap.size, 1, none⟩ = some (.int .i64 0) := heap_cell hH (by simp)
      have f0 : wr.frozen? ⟨w.heap.size, 0, none⟩ = false := heap_frozen hH
      have f1 : wr.frozen? ⟨w.heap.size, 1, none⟩ = false := heap_frozen hH
      have HB : Hid (Below w.heap.size w wr) := bel_trans ((Below.refl _ w).alloc (Nat.le_refl _) (.cells #[.int .i64 0, .int .i64 0] 25)) (by rw [World.size_alloc]; exact hb0)
      clear hb0 hH
      by_cases his : i < t.size
      · have i1 : (i : Int) < (t.size : Int) := by omega
        refine wp_seq_k (fun K hK => ?_)
        have HKK : Hid _ := hK
        clear hK
        go_wp2
        refine HKK.out _ _ (wp_block ?_)
        refine then_mono (rw_all t i line frm (w.heap.size + 1) w.heap.size u5 pre wr _ _ _ _ _ _ _ _ _ _ _ _ _ _ _ _ _ _ _ _ _ _ _ _ _ _ _ _ _ _ _ _ _ _ _ _ _ _ _ _ _ _ _ _ _ _ _ _ _ _ _ _ _ _ _ _ _ _ _ _ _ _ _ _ _ _ _ _ _ _ _ _ _ _ _ _ _ _ _ _ _ _ _ _ _ _ _ _ _ _ _ _ _ _ _ _ _ _ _ _ _ _ _ _ _ _ _ _ _ _ _ _ _ _ _ _ _ _ _ _ _ _ _ _ _ _ _ _ _ _ _ _ _ _ _ _ _ _ _ _ _ _ _ _ _ _ _ _ _ _ _ _ _ _ _ _ _ _ _ _ _ _ _ _ _ _ _ _ _ _ _ _ _ _ _ _ _ _ _ _ _ _ _ _ _ _ _ _ _ _ _ _ _ _ _ _ _ _ _ _ _ _ _ _ _ _ _ _ _ _ _ _ _ _ _ _ _ _ _ _ _ _ _ _ _ _ _ _ _ _ _ _ _ _ _ _ _ _ _ _ HT.out his HI.out.1 r0 r1 f0 f1 HI.out.2.2.1 hsz HI.out.2.1 ?hk ?hq)
        case hk =>
          intro i' line' frm' v' pre' W' y9 y10 y11 y12 y13 y14 y15 y16 y27 y28 y29 y30 y31 y32 y33 y34 y35 y36 y37 y38 y39 y40 y41 y42 y43 y44 y45 y46 y47 y48 y49 y50 y51 y52 y53 y54 y55 y56 y57 y58 y59 y60 y61 y62 y63 y64 y65 y66 y67 y68 y69 y70 y71 y72 y73 y74 y75 y76 y77 y78 y79 y80 y81 y82 y83 y84 y85 y86 y87 y88 y89 y90 y91 y92 y93 y94 y95 y96 y97 y98 y99 y100 y101 y102 y103 y104 y105 y106 y107 y108 y109 y110 y111 y112 y113 y114 y115 y116 y117 y118 y119 y120 y121 y122 y123 y124 y125 y126 y127 y128 y129 y130 y131 y132 y133 y134 y135 y136 y137 y138 y139 y140 y141 y142 y143 y144 y145 y146 y147 y148 y149 y150 y151 y152 y153 y154 y155 y156 y157 y158 y159 y160 y161 y162 y163 y164 y165 y166 y167 y168 y169 y170 y171 y172 y173 y174 y175 y176 y177 y178 y179 y180 y181 y182 y183 y184 y185 y186 y187 y188 y189 y190 y191 y192 y193 y194 y195 y196 y197 y198 y199 y200 y201 y202 y203 y204 y205 y206 y207 y208 y209 y210 y211 y212 y213 y214 y215 y216 y217 y218 y219 y220 y221 y222 y223 y224 y225 y226 y227 y228 y229 y230 y231 y232 y233 y234 y235 y236 y237 y238 y239 y240 y241 h1 h2 h3 h4 h5 h6
          dsimp only [Exit.inBlock, Exit.then]
          go_roundw
          case rel => exact ⟨i', line', frm', pre', h2, rfl, rfl, rfl, h3, h6, h4, HI.out.2.2.2.trans h5⟩
          case measure => simp [intOf]; omega
        case hq =>
          intro W5 y9 y10 y11 y12 y13 y14 y15 y16 y27 y28 y29 y30 y31 y32 y33 y34 y35 y36 y37 y38 y39 y40 y41 y42 y43 y44 y45 y46 y47 y48 y49 y50 y51 y52 y53 y54 y55 y56 y57 y58 y59 y60 y61 y62 y63 y64 y65 y66 y67 y68 y69 y70 y71 y72 y73 y74 y75 y76 y77 y78 y79 y80 y81 y82 y83 y84 y85 y86 y87 y88 y89 y90 y91 y92 y93 y94 y95 y96 y97 y98 y99 y100 y101 y102 y103 y104 y105 y106 y107 y108 y109 y110 y111 y112 y113 y114 y115 y116 y117 y118 y119 y120 y121 y122 y123 y124 y125 y126 y127 y128 y129 y130 y131 y132 y133 y134 y135 y136 y137 y138 y139 y140 y141 y142 y143 y144 y145 y146 y147 y148 y149 y150 y151 y152 y153 y154 y155 y156 y157 y158 y159 y160 y161 y162 y163 y164 y165 y166 y167 y168 y169 y170 y171 y172 y173 y174 y175 y176 y177 y178 y179 y180 y181 y182 y183 y184 y185 y186 y187 y188 y189 y190 y191 y192 y193 y194 y195 y196 y197 y198 y199 y200 y201 y202 y203 y204 y205 y206 y207 y208 y209 y210 y211 y212 y213 y214 y215 y216 y217 y218 y219 y220 y221 y222 y223 y224 y225 y226 y227 y228 y229 y230 y231 y232 y233 y234 y235 y236 y237 y238 y239 y240 y241 hf hx
          dsimp only [Exit.inBlock, Exit.then]
          have ho : W5.ownsRow (w.heap.size + 1) 34 5 u5 pre.length (wordsCells t pre) := ownsRow_same HI.out.2.2.1 (fun k h1 h2 => hf.block k h2 (by omega))
          obtain ⟨ad, cap, rfl, hwa⟩ := words_at_g ho
          have e1 : eachList t = pre := by rw [HE.out.1, hx]
          have c0 := hf.c0
          have c1 := hf.c1
          refine end_RW (t := t) (ad := ad) (cap := cap) (pl := (line : Int)) (pc := ((posOf t i).2 : Int)) (c := 3) ?hr ?hd ?hp ?hw ?hb
          case hr => rw [e1]; simp [results, Tryd.results10, go_sem, c0, c1]
          case hd => rfl
          case hp => rw [HE.out.2.1, HE.out.2.2, hx, if_pos his, if_pos his]; exact ⟨by rw [HI.out.1.1], rfl, rfl⟩
          case hw => rw [e1]; exact hwa
          case hb => exact hf.below HB.out rfl
      · have hie : i = t.size := by omega
        have i1 : ¬ (i : Int) < (t.size : Int) := by omega
        have hx : lexAll t = (pre, t.size) := by
          have := HI.out.2.1
          rw [hie, Lx_end] at this
          simpa using this
        have HX : Hid (lexAll t = (pre, t.size)) := hx
        have ho := HI.out.2.2.1
        obtain ⟨ad, cap, rfl, hwa⟩ := words_at_g ho
        have HO : Hid (wr.ownsRow (w.heap.size + 1) 34 5 (.slice ad pre.length cap) pre.length (wordsCells t pre)) := ho
        clear hx ho hwa hie
        go_wp2
        have e1 : eachList t = pre := by rw [HE.out.1, HX.out]
        refine end_RW (t := t) (ad := ad) (cap := cap) (pl := 0) (pc := 0) (c := 0) ?hr ?hd ?hp ?hw ?hb
        case hr =>
          rw [e1]
          have q0 : ((wr.setCell ⟨w.heap.size, 0, none⟩ (.int .i64 0)).setCell ⟨w.heap.size, 1, none⟩ (.int .i64 0)).cell? ⟨w.heap.size, 0, none⟩ = some (.int .i64 0) := by go_simp
          have q1 : ((wr.setCell ⟨w.heap.size, 0, none⟩ (.int .i64 0)).setCell ⟨w.heap.size, 1, none⟩ (.int .i64 0)).cell? ⟨w.heap.size, 1, none⟩ = some (.int .i64 0) := by go_simp
          simp [results, Tryd.results10, go_sem, q0, q1]
        case hd => rfl
        case hp => rw [HE.out.2.1, HE.out.2.2, HX.out, if_neg (by simp), if_neg (by simp)]; exact ⟨rfl, rfl, rfl⟩
        case hw =>
          rw [e1]
          obtain ⟨ad', cap', hv', hwa'⟩ := words_at_g (ownsRow_same (w' := (wr.setCell ⟨w.heap.size, 0, none⟩ (.int .i64 0)).setCell ⟨w.heap.size, 1, none⟩ (.int .i64 0)) HO.out (fun k h1 h2 => (heap_set_other (by omega)).trans (heap_set_other (by omega))))
          injection hv' with e2 e3 e4
          subst e2 e4
          exact hwa'
        case hb => exact bel_set (bel_set HB.out (Nat.le_refl _) _) (Nat.le_refl _) _
end Go.Proofs.YtkbihcicnffjdaaDoor
