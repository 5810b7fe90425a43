/- FlowSolves: numbers are raised along edges till nothing changes. -/
import Derived.Test.YtiigfggebpmlnaaGreatDoorFlSolv2
namespace Go.Proofs.YtiigfggebpmlnaaGreatDoor
open Go.ChangeShapes Go.WideShapes Go.ChangeAt Go.RowKit
set_option linter.unusedSimpArgs false
set_option linter.unusedVariables false

/-- Numbers on their way to the least. -/
structure Ws (n : Nat) (es : List (Nat × Nat)) (f x : Nat → Int) : Prop where
  lo : ∀ i, i < n → f i ≤ x i
  mn : ∀ z : Nat → Int, (∀ i, i < n → f i ≤ z i) → (∀ e ∈ es, z e.1 ≤ z e.2) → ∀ i, i < n → x i ≤ z i
def updX (x : Nat → Int) (b : Nat) (v : Int) : Nat → Int := fun i => if i = b then v else x i
theorem Ws.up {n : Nat} {es : List (Nat × Nat)} {f x : Nat → Int} {a b : Nat} (h : Ws n es f x) (he : (a, b) ∈ es) (ha : a < n) (hlt : x b < x a) : Ws n es f (updX x b (x a)) where
  lo := fun i hi => by
    unfold updX
    split
    · rename_i e; subst e; have := h.lo i hi; omega
    · exact h.lo i hi
  mn := fun z h1 h2 i hi => by
    unfold updX
    split
    · rename_i e
      subst e
      exact Int.le_trans (h.mn z h1 h2 a ha) (h2 (a, i) he)
    · exact h.mn z h1 h2 i hi
theorem Ws.least {n : Nat} {es : List (Nat × Nat)} {f x : Nat → Int} (h : Ws n es f x) (hc : ∀ e ∈ es, x e.1 ≤ x e.2) : Least n es f x := ⟨h.lo, hc, h.mn⟩
def smX (x : Nat → Int) : Nat → Nat
  | 0 => 0
  | n + 1 => smX x n + (1000000 - x n).toNat
theorem smX_same {x y : Nat → Int} : ∀ {n : Nat}, (∀ i, i < n → x i = y i) → smX x n = smX y n
  | 0, _ => rfl
  | n + 1, h => by
    simp only [smX]
    rw [smX_same (fun i hi => h i (by omega)), h n (by omega)]
theorem smX_up {x : Nat → Int} {b : Nat} {v : Int} (hv : x b < v) (h6 : v ≤ 1000000) : ∀ {n : Nat}, b < n → smX (updX x b v) n < smX x n
  | n + 1, hb => by
    simp only [smX]
    by_cases e : b = n
    · subst e
      have h1 : smX (updX x b v) b = smX x b := smX_same (fun i hi => by unfold updX; rw [if_neg (by omega)])
      have h2 : updX x b v b = v := by unfold updX; rw [if_pos rfl]
      rw [h1, h2]
      omega
    · have h1 := smX_up hv h6 (n := n) (by omega)
      have h2 : updX x b v n = x n := by unfold updX; rw [if_neg (by omega)]
      rw [h2]
      omega
def cInt : Option Value → Int
  | some (.int _ n) => n
  | _ => 0
def sumW (g n : Nat) (W : World) : Nat := smX (fun i => cInt (W.cell? ⟨g, i, none⟩)) n
theorem sumW_eq {W : World} {g n : Nat} {x : Nat → Int} (h : LAt W g n x) : sumW g n W = smX x n := smX_same (fun i hi => by rw [(h i hi).1]; rfl)
def b01 : Value → Nat
  | .bool true => 1
  | _ => 0
theorem LAt.up {W : World} {g n b : Nat} {x : Nat → Int} {v : Int} (h : LAt W g n x) (hb : b < n) : LAt (W.setCell ⟨g, b, none⟩ (.int .i64 v)).drew g n (updX x b v) := fun i hi => by
  refine ⟨?_, ?_⟩
  · show (W.setCell ⟨g, b, none⟩ (.int .i64 v)).cell? ⟨g, i, none⟩ = _
    unfold updX
    by_cases e : i = b
    · subst e
      rw [if_pos rfl]
      exact World.cell?_setCell_same _ _ _ (h i hi).1
    · rw [if_neg e, World.cell?_setCell_other _ _ _ _ (fun e2 => e (by cases e2; rfl))]
      exact (h i hi).1
  · show (W.setCell ⟨g, b, none⟩ (.int .i64 v)).frozen? ⟨g, i, none⟩ = _
    rw [World.frozen?_setCell]
    exact (h i hi).2
theorem Mv.drew {H mb : Nat} {a b : World} (h : Mv H mb a b) : Mv H mb a b.drew := ⟨h.os, h.tape, h.output, h.size, h.block⟩
theorem LAt.drew {W : World} {g n : Nat} {x : Nat → Int} (h : LAt W g n x) : LAt W.drew g n x := h
set_option maxRecDepth 100000 in
set_option maxHeartbeats 16000000 in
theorem fs_loop3 (ea : Option Addr) (ne ec g c N : Nat) (es : List (Nat × Nat)) (f x0 : Nat → Int) (z0z z2z z3z z4z z5z z6z z7z z8z z9z z10z z11z z12z z13z z16z z17z z18z z19z z20z z21z z22z z23z z24z z25z z26z z27z z28z z29z z30z z31z z32z z33z z34z z35z z36z z37z z38z z39z z40z z41z z42z z43z z44z z45z z46z z47z z48z z49z z50z z51z z52z z53z z54z z55z z56z z57z z58z z59z z60z z61z z62z z63z z64z z65z z66z z67z z68z z69z z70z z71z z72z z73z z74z z75z z76z z77z z78z z79z z80z z81z z82z z83z z84z z85z z86z z87z z88z z89z z90z z91z z92z z93z z94z z95z z96z z97z z98z z99z z100z z101z z102z z103z z104z z105z z106z z107z z108z z109z z110z z111z z112z z113z z114z z115z z116z z117z z118z z119z z120z z121z z122z z123z z124z z125z z126z z127z z128z z129z z130z z131z z132z z133z z134z z135z z136z z137z z138z z139z z140z z141z z142z z143z z144z z145z z146z z147z z148z z149z z150z z151z z152z z153z z154z z155z z156z z157z z158z z159z z160z z161z z162z z163z z164z z165z z166z z167z z168z z169z z170z z171z z172z z173z z174z z175z z176z z177z z178z z179z z180z z181z z182z z183z z184z z185z z186z z187z z188z z189z z190z z191z : Value) (Q0 : Exit → Act → World → Prop) (w : World) (hQ0 : ∀ c (a : Act) (dd : Option Tmp) v x, Q0 (.panic c) (a.put dd v) x → Q0 (.panic c) a x) (HL : Hid (ne = es.length)) (hne : ne ≤ 1000000) (HI : Hid (EL w (.slice ea ne ec) (upE es))) (HES : Hid (∀ e ∈ es, e.1 < N ∧ e.2 < N)) (HG : Hid (∀ b off n c, (Value.slice ea ne ec) = .slice (some ⟨b, off, none⟩) n c → b ≠ g ∨ ne = 0)) (HLA : Hid (LAt w g N x0)) (HWS : Hid (Ws N es f x0)) (HF : Hid (∀ i, i < N → f i ≤ 1000000))
    (HX : Hid (∀ v16 v131 v132 v133 v134 v135 v136 v137 v138 v139 v140 v141 v142 v143 v144 v145 v146 v147 v148 v149 v150 v151 v152 v153 v154 v155 v156 v157 v158 v159 v160 v161 v162 v163 v164 v165 v166 v167 v168 v169 W x, Mv w.heap.size g w W → LAt W g N x → Least N es f x → Q0 (.exit 4) ⟨#[z0z, .slice ea ne ec, z2z, z3z, z4z, z5z, z6z, z7z, z8z, z9z, z10z, z11z, z12z, z13z, .slice (some ⟨g, 0, none⟩) N c, .bool false, v16, z17z, z18z, z19z, z20z, z21z, z22z, z23z, z24z, z25z, z26z, z27z, z28z, z29z, z30z, z31z, z32z, z33z, z34z, z35z, z36z, z37z, z38z, z39z, z40z, z41z, z42z, z43z, z44z, z45z, z46z, z47z, z48z, z49z, z50z, z51z, z52z, z53z, z54z, z55z, z56z, z57z, z58z, z59z, z60z, z61z, z62z, z63z, z64z, z65z, z66z, z67z, z68z, z69z, z70z, z71z, z72z, z73z, z74z, z75z, z76z, z77z, z78z, z79z, z80z, z81z, z82z, z83z, z84z, z85z, z86z, z87z, z88z, z89z, z90z, z91z, z92z, z93z, z94z, z95z, z96z, z97z, z98z, z99z, z100z, z101z, z102z, z103z, z104z, z105z, z106z, z107z, z108z, z109z, z110z, z111z, z112z, z113z, z114z, z115z, z116z, z117z, z118z, z119z, z120z, z121z, z122z, z123z, z124z, z125z, z126z, z127z, z128z, z129z, z130z, v131, v132, v133, v134, v135, v136, v137, v138, v139, v140, v141, v142, v143, v144, v145, v146, v147, v148, v149, v150, v151, v152, v153, v154, v155, v156, v157, v158, v159, v160, v161, v162, v163, v164, v165, v166, v167, v168, v169, z170z, z171z, z172z, z173z, z174z, z175z, z176z, z177z, z178z, z179z, z180z, z181z, z182z, z183z, z184z, z185z, z186z, z187z, z188z, z189z, z190z, z191z], []⟩ W)) :
    Code.wp Tryz.prog (Code.loop (fsL 2)) Q0 ⟨#[z0z, .slice ea ne ec, z2z, z3z, z4z, z5z, z6z, z7z, z8z, z9z, z10z, z11z, z12z, z13z, .slice (some ⟨g, 0, none⟩) N c, .bool true, z16z, z17z, z18z, z19z, z20z, z21z, z22z, z23z, z24z, z25z, z26z, z27z, z28z, z29z, z30z, z31z, z32z, z33z, z34z, z35z, z36z, z37z, z38z, z39z, z40z, z41z, z42z, z43z, z44z, z45z, z46z, z47z, z48z, z49z, z50z, z51z, z52z, z53z, z54z, z55z, z56z, z57z, z58z, z59z, z60z, z61z, z62z, z63z, z64z, z65z, z66z, z67z, z68z, z69z, z70z, z71z, z72z, z73z, z74z, z75z, z76z, z77z, z78z, z79z, z80z, z81z, z82z, z83z, z84z, z85z, z86z, z87z, z88z, z89z, z90z, z91z, z92z, z93z, z94z, z95z, z96z, z97z, z98z, z99z, z100z, z101z, z102z, z103z, z104z, z105z, z106z, z107z, z108z, z109z, z110z, z111z, z112z, z113z, z114z, z115z, z116z, z117z, z118z, z119z, z120z, z121z, z122z, z123z, z124z, z125z, z126z, z127z, z128z, z129z, z130z, z131z, z132z, z133z, z134z, z135z, z136z, z137z, z138z, z139z, z140z, z141z, z142z, z143z, z144z, z145z, z146z, z147z, z148z, z149z, z150z, z151z, z152z, z153z, z154z, z155z, z156z, z157z, z158z, z159z, z160z, z161z, z162z, z163z, z164z, z165z, z166z, z167z, z168z, z169z, z170z, z171z, z172z, z173z, z174z, z175z, z176z, z177z, z178z, z179z, z180z, z181z, z182z, z183z, z184z, z185z, z186z, z187z, z188z, z189z, z190z, z191z], []⟩ w := by
  have hnm : (ne : Int) ≤ 9223372036854775807 := by omega
  conv => arg 2; arg 1; whnf
  dsimp only
  try simp only [List.append_eq, List.cons_append, List.nil_append]
  go_loopw [15] (fun v15 wr => ∃ ag : Bool, v15 = .bool ag ∧ Hid (∃ x, Mv w.heap.size g w wr ∧ LAt wr g N x ∧ Ws N es f x ∧ (ag = false → ∀ e ∈ es, x e.1 ≤ x e.2))) (fun v15 wr => 2 * sumW g N wr + b01 v15)
  case atStart => exact ⟨true, rfl, x0, Mv.refl _ _ _, HLA.out, HWS.out, fun h => by cases h⟩
  case round =>
    obtain ⟨ag, rfl, HR⟩ := hrel
    rename World => wr
    obtain ⟨x, hmv, hla, hws, hcl⟩ := HR.out
    cases ag with
    | false =>
      have HF2 := hid (And.intro hmv (And.intro hla (hws.least (hcl rfl))))
      clear HR hmv hla hws hcl
      go_wp2
      exact HX.out _ _ _ _ _ _ _ _ _ _ _ _ _ _ _ _ _ _ _ _ _ _ _ _ _ _ _ _ _ _ _ _ _ _ _ _ _ _ _ _ _ x HF2.out.1 HF2.out.2.1 HF2.out.2.2
    | true =>
      have HS := hid (And.intro hmv (And.intro hla hws))
      obtain ⟨S0, hS0⟩ : ∃ S0, S0 = sumW g N wr := ⟨_, rfl⟩
      have HS0 : Hid (smX x N = S0) := hid (by rw [hS0, sumW_eq hla])
      have HS1 := hid hS0
      clear HR hmv hla hws hcl hS0
      go_wp2
      go_loopw [15, 16] (fun v15 v16 wq => ∃ (ag : Bool) (i : Nat), i ≤ ne ∧ v15 = .bool ag ∧ v16 = .int .i64 i ∧ Hid (∃ y, Mv w.heap.size g w wq ∧ LAt wq g N y ∧ Ws N es f y ∧ (ag = false → (∀ e ∈ es.take i, y e.1 ≤ y e.2) ∧ smX y N = S0) ∧ (ag = true → smX y N < S0))) (fun _ v16 _ => ne - (intOf v16).toNat)
      case atStart => exact ⟨false, 0, by omega, rfl, rfl, x, HS.out.1, HS.out.2.1, HS.out.2.2, (fun _ => ⟨fun e he => by simp at he, HS0.out⟩), fun h => by cases h⟩
      case round =>
        clear HS HS0
        obtain ⟨ag, i, hi, rfl, rfl, HR⟩ := hrel
        rename World => wq
        obtain ⟨y, hmv, hla, hws, h1, h2⟩ := HR.out
        have HS := hid (And.intro hmv (And.intro hla (And.intro hws (And.intro h1 h2))))
        clear HR
        by_cases hin : i < ne
        · have j0 : (0 : Int) ≤ i := by omega
          have j1 : (i : Int) < ne := by omega
          have hget := List.getElem?_eq_getElem (l := es) (show i < es.length by rw [← HL.out]; exact hin)
          generalize es[i]'(by rw [← HL.out]; exact hin) = ab at hget
          obtain ⟨a, b⟩ := ab
          have hab := HES.out (a, b) (List.mem_of_getElem? hget)
          obtain ⟨va2, vc2, hv2, _, _, h5⟩ := HI.out
          obtain ⟨eb, eo, rfl, hc⟩ := h5 (fun e => by
            have := congrArg List.length e
            simp [upE] at this
            rw [this] at hget
            simp at hget)
          injection hv2 with q1 q2 q3
          subst q1
          have hebg := (HG.out eb eo ne ec rfl).resolve_right (by omega)
          have hge : (upE es)[i]? = some ((a : Int), (b : Int)) := by unfold upE; rw [List.getElem?_map, hget]; rfl
          have kk : ∀ {o v}, w.cell? ⟨eb, o, none⟩ = some v → wq.cell? ⟨eb, o, none⟩ = some v := fun h => cell_of h (fun hl => hmv.block eb hl hebg)
          have ca := kk (hc i _ hge).1
          have cb := kk (hc i _ hge).2
          dsimp only at ca cb
          have cwa := (hla a hab.1).1
          have cwb := (hla b hab.2).1
          have zb := (hla b hab.2).2
          have hxb : y a ≤ 1000000 := hws.mn (fun _ => 1000000) HF.out (fun _ _ => Int.le_refl _) a hab.1
          have HGET := hid hget
          have HEB := hid hebg
          clear hget hc h5 q2 q3 hge kk hmv hla hws h1 h2
          go_upto_region 24 with fail
          by_cases hlt : y b < y a
          · have hne2 : a ≠ b := fun e => by rw [e] at hlt; omega
            refine fs_r24 eb eo ne ec g c N i a b (y a) (y b) true _ _ _ _ _ _ _ _ _ _ _ _ _ _ _ _ _ _ _ _ _ _ _ _ _ _ _ _ _ _ _ _ _ _ _ _ _ _ _ _ _ _ _ _ _ _ _ _ _ _ _ _ _ _ _ _ _ _ _ _ _ _ _ _ _ _ _ _ _ _ _ _ _ _ _ _ _ _ _ _ _ _ _ _ _ _ _ _ _ _ _ _ _ _ _ _ _ _ _ _ _ _ _ _ _ _ _ _ _ _ _ _ _ _ _ _ _ _ _ _ _ _ _ _ _ _ _ _ _ _ _ _ _ _ _ _ _ _ _ _ _ _ _ _ _ _ _ _ _ _ _ _ _ _ _ _ _ _ _ _ _ _ _ _ _ _ _ _ _ _ _ _ _ _ _ _ _ _ _ _ _ _ _ _ _ _ _ _ _ _ _ wq (fun c a dd v x h => by first | exact hQ0 _ _ _ _ _ h | (cases dd <;> exact h) | exact h) ca cb cwb cwa j0 j1 (by omega) (by omega) (by omega) (by omega) (by simpa using hlt) ?_
            intro y138 y139 y140 y141 y142 y143 y144 y145 y146 y147 y148 y149 y150 y151 y152 y153
            have HS2 : Hid (Mv w.heap.size g w ((wq.drew.setCell ⟨g, b, none⟩ (.int .i64 (y a))).drew) ∧ LAt ((wq.drew.setCell ⟨g, b, none⟩ (.int .i64 (y a))).drew) g N (updX y b (y a)) ∧ Ws N es f (updX y b (y a)) ∧ smX (updX y b (y a)) N < S0) := by
              refine ⟨((HS.out.1.drew).set (p := ⟨g, b, none⟩) (.inl rfl) _).drew, LAt.up HS.out.2.1.drew hab.2, HS.out.2.2.1.up (List.mem_of_getElem? HGET.out) hab.1 hlt, ?_⟩
              have h3 := smX_up hlt hxb hab.2
              cases ag with
              | false => have := (HS.out.2.2.2.1 rfl).2; omega
              | true => have := HS.out.2.2.2.2 rfl; omega
            go_upto_region 25 with fail
            refine fs_r25 eb eo ne ec g c N i a b (y a) (y b) _ _ _ _ _ _ _ _ _ _ _ _ _ _ _ _ _ _ _ _ _ _ _ _ _ _ _ _ _ _ _ _ _ _ _ _ _ _ _ _ _ _ _ _ _ _ _ _ _ _ _ _ _ _ _ _ _ _ _ _ _ _ _ _ _ _ _ _ _ _ _ _ _ _ _ _ _ _ _ _ _ _ _ _ _ _ _ _ _ _ _ _ _ _ _ _ _ _ _ _ _ _ _ _ _ _ _ _ _ _ _ _ _ _ _ _ _ _ _ _ _ _ _ _ _ _ _ _ _ _ _ _ _ _ _ _ _ _ _ _ _ _ _ _ _ _ _ _ _ _ _ _ _ _ _ _ _ _ _ _ _ _ _ _ _ _ _ _ _ _ _ _ _ _ _ _ _ _ _ _ _ _ _ _ _ _ _ _ _ _ _ wq.drew (fun c a dd v x h => by first | exact hQ0 _ _ _ _ _ h | (cases dd <;> exact h) | exact h) ca cb cwb cwa j0 j1 (by omega) (by omega) (by omega) (by omega) zb HEB hne2 ?_
            intro y155 y156 y157 y158 y159 y160 y161 y162 y163 y164 y165 y166 y167 y168 y169
            clear ca cb cwb cwa zb
            go_wp2
            go_roundw
            case rel => exact ⟨true, i + 1, by omega, rfl, by simp, updX y b (y a), HS2.out.1, HS2.out.2.1, HS2.out.2.2.1, (fun h => by cases h), fun _ => HS2.out.2.2.2⟩
            case measure => simp [intOf]; omega
          · refine fs_r24 eb eo ne ec g c N i a b (y a) (y b) false _ _ _ _ _ _ _ _ _ _ _ _ _ _ _ _ _ _ _ _ _ _ _ _ _ _ _ _ _ _ _ _ _ _ _ _ _ _ _ _ _ _ _ _ _ _ _ _ _ _ _ _ _ _ _ _ _ _ _ _ _ _ _ _ _ _ _ _ _ _ _ _ _ _ _ _ _ _ _ _ _ _ _ _ _ _ _ _ _ _ _ _ _ _ _ _ _ _ _ _ _ _ _ _ _ _ _ _ _ _ _ _ _ _ _ _ _ _ _ _ _ _ _ _ _ _ _ _ _ _ _ _ _ _ _ _ _ _ _ _ _ _ _ _ _ _ _ _ _ _ _ _ _ _ _ _ _ _ _ _ _ _ _ _ _ _ _ _ _ _ _ _ _ _ _ _ _ _ _ _ _ _ _ _ _ _ _ _ _ _ _ wq (fun c a dd v x h => by first | exact hQ0 _ _ _ _ _ h | (cases dd <;> exact h) | exact h) ca cb cwb cwa j0 j1 (by omega) (by omega) (by omega) (by omega) (by simpa using hlt) ?_
            intro y138 y139 y140 y141 y142 y143 y144 y145 y146 y147 y148 y149 y150 y151 y152 y153
            have HS2 : Hid (Mv w.heap.size g w wq.drew ∧ LAt wq.drew g N y ∧ Ws N es f y ∧ (ag = false → (∀ e ∈ es.take (i + 1), y e.1 ≤ y e.2) ∧ smX y N = S0) ∧ (ag = true → smX y N < S0)) := by
              refine ⟨HS.out.1.drew, HS.out.2.1, HS.out.2.2.1, fun hag => ⟨fun e he => ?_, (HS.out.2.2.2.1 hag).2⟩, HS.out.2.2.2.2⟩
              rw [List.take_add_one, HGET.out] at he
              rcases List.mem_append.1 he with h | h
              · exact (HS.out.2.2.2.1 hag).1 e h
              · have e2 : e = (a, b) := by simpa using h
                rw [e2]
                dsimp only
                omega
            clear ca cb cwb cwa zb
            go_wp2
            go_roundw
            case rel => exact ⟨ag, i + 1, by omega, rfl, by simp, y, HS2.out⟩
            case measure => simp [intOf]; omega
        · obtain rfl : ne = i := by omega
          have HS2 : Hid (Mv w.heap.size g w wq ∧ LAt wq g N y ∧ Ws N es f y ∧ (ag = false → ∀ e ∈ es, y e.1 ≤ y e.2)) := ⟨hmv, hla, hws, fun hag => by have := (h1 hag).1; rw [HL.out, List.take_length] at this; exact this⟩
          have HM : Hid (2 * sumW g N wq + b01 (.bool ag) < 2 * sumW g N wr + 1) := by
            show _ < _
            rw [← HS1.out, sumW_eq hla]
            cases ag with
            | false => have := (h1 rfl).2; simp only [b01]; omega
            | true => have := h2 rfl; simp only [b01]; omega
          clear hmv hla hws h1 h2 HS
          go_wp2
          go_roundw
          case rel => exact ⟨ag, rfl, y, HS2.out⟩
          case measure => simpa [b01] using HM.out
end Go.Proofs.YtiigfggebpmlnaaGreatDoor

