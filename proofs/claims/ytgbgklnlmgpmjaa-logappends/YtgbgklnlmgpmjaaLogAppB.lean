/- A round of LogAppends: the chunk moves on to the next segment. -/
import Derived.Test.YtgbgklnlmgpmjaaLogLoop
namespace Go.Proofs.Ytgbgklnlmgpmjaa
open Go.RowKit Lo Hdp Chk Rec

set_option maxRecDepth 1000000 in
set_option maxHeartbeats 40000000 in
theorem round_B {segs : Int} {sizes give : List Int} {w wr : World} {sad gad : Option Addr} {scap gcap n b gd lb N i m0 : Nat} {S : St} {V1 : Nat → Value} {L : Lg} {v1 : Value} {fad1 : Option Addr} {fcap1 : Nat} {K : Act → World → Prop} {c3 c4 c5 c15 c33 c34 c35 c36 c37 c38 c39 c40 c41 c42 c43 c44 c45 c46 c47 c48 c49 c50 c51 c52 c53 c54 c55 c56 c57 c58 c59 c60 c61 c62 c63 c64 c65 c66 c67 c68 c69 c70 c71 c293 : Value} {u6 u17 u18 u19 u20 u21 u22 u23 u24 u25 u26 u27 u28 u29 u30 u31 u32 u72 u73 u74 u75 u76 u77 u78 u79 u80 u81 u82 u83 u84 u85 u86 u87 u88 u89 u90 u91 u92 u93 u94 u95 u96 u97 u98 u99 u100 u101 u102 u103 u104 u105 u106 u107 u108 u109 u110 u111 u112 u113 u114 u115 u116 u117 u118 u119 u120 u121 u122 u123 u124 u125 u126 u127 u128 u129 u130 u131 u132 u133 u134 u135 u136 u137 u138 u139 u140 u141 u142 u143 u144 u145 u146 u147 u148 u149 u150 u151 u152 u153 u154 u155 u156 u157 u158 u159 u160 u161 u162 u163 u164 u165 u166 u167 u168 u169 u170 u171 u172 u173 u174 u175 u176 u177 u178 u179 u180 u181 u182 u183 u184 u185 u186 u187 u188 u189 u190 u191 u192 u193 u194 u195 u196 u197 u198 u199 u200 u201 u202 u203 u204 u205 u206 u207 u208 u209 u210 u211 u212 u213 u214 u215 u216 u217 u218 u219 u220 u221 u222 u223 u224 u225 u226 u227 u228 u229 u230 u231 u232 u233 u234 u235 u236 u237 u238 u239 u240 u241 u242 u243 u244 u245 u246 u247 u248 u249 u250 u251 u252 u253 u254 u255 u256 u257 u258 u259 u260 u261 u262 u263 u264 u265 u266 u267 u268 u269 u270 u271 u272 u273 u274 u275 u276 u277 u278 u279 u280 u281 u282 u283 u284 u285 u286 u287 u288 u289 u290 u291 u292 : Value}
    (hl1 : sizes.length ≤ 9223372036854775807) (hl2 : give.length ≤ 9223372036854775807) (hn8 : 8 ≤ n) (hn15 : n ≤ 15) (hlb2 : w.heap.size ≤ lb) (h60 : ¬ 60 < sizes.length) (hil : i < sizes.length) (hm0 : Hid (sizes.length - i = m0))
    (HSC : Hid (0 < sizes.length → ∃ b off, sad = some ⟨b, off, none⟩ ∧ b < w.heap.size ∧ ∀ (i : Nat) (h : i < sizes.length), w.cell? ⟨b, off + i, none⟩ = some (.int .i64 sizes[i])))
    (HGC : Hid (0 < give.length → ∃ b off, gad = some ⟨b, off, none⟩ ∧ b < w.heap.size ∧ ∀ (i : Nat) (h : i < give.length), w.cell? ⟨b, off + i, none⟩ = some (.int .i64 give[i])))
    (HA : Hid (AppAt n lb b gd N i w wr S V1 L v1 (.slice fad1 L.free.length fcap1))) (k2 : Nat) (hk2 : (sizes[i] % 1048576) % 25 = (k2 : Int)) (hst : ¬ L.pos + 1 + (k2 : Int) ≤ 32) (hfl : (0 : Int) < (L.free.length : Int)) (hcb : L.canB 32 k2 = true) :
    Code.wp Try.prog lawBody (Exit.then (fun a' w' => (∃ u6 u10 u11 u12 u13 u14 u16 u17 u18 u19 u20 u21 u22 u23 u24 u25 u26 u27 u28 u29 u30 u31 u32 u72 u73 u74 u75 u76 u77 u78 u79 u80 u81 u82 u83 u84 u85 u86 u87 u88 u89 u90 u91 u92 u93 u94 u95 u96 u97 u98 u99 u100 u101 u102 u103 u104 u105 u106 u107 u108 u109 u110 u111 u112 u113 u114 u115 u116 u117 u118 u119 u120 u121 u122 u123 u124 u125 u126 u127 u128 u129 u130 u131 u132 u133 u134 u135 u136 u137 u138 u139 u140 u141 u142 u143 u144 u145 u146 u147 u148 u149 u150 u151 u152 u153 u154 u155 u156 u157 u158 u159 u160 u161 u162 u163 u164 u165 u166 u167 u168 u169 u170 u171 u172 u173 u174 u175 u176 u177 u178 u179 u180 u181 u182 u183 u184 u185 u186 u187 u188 u189 u190 u191 u192 u193 u194 u195 u196 u197 u198 u199 u200 u201 u202 u203 u204 u205 u206 u207 u208 u209 u210 u211 u212 u213 u214 u215 u216 u217 u218 u219 u220 u221 u222 u223 u224 u225 u226 u227 u228 u229 u230 u231 u232 u233 u234 u235 u236 u237 u238 u239 u240 u241 u242 u243 u244 u245 u246 u247 u248 u249 u250 u251 u252 u253 u254 u255 u256 u257 u258 u259 u260 u261 u262 u263 u264 u265 u266 u267 u268 u269 u270 u271 u272 u273 u274 u275 u276 u277 u278 u279 u280 u281 u282 u283 u284 u285 u286 u287 u288 u289 u290 u291 u292 : Value, (∃ i : Nat, i ≤ sizes.length ∧ u16 = .int .i64 i ∧ ∃ S V L vv fad fcap, u10 = .int .i64 L.seg ∧ u11 = .int .i64 L.pos ∧ u12 = .int .i64 L.next ∧ u13 = .int .i64 L.seq ∧ u14 = .slice fad L.free.length fcap ∧ Hid (AppAt n lb b gd N i w w' S V L vv (.slice fad L.free.length fcap))) ∧ a' = ⟨List.toArray (.int .i64 segs :: .slice sad sizes.length scap :: .slice gad give.length gcap :: c3 :: c4 :: c5 :: u6 :: .int .i64 (n : Int) :: .pointer (some ⟨b, 0, none⟩) :: .pointer (some ⟨lb, 0, none⟩) :: u10 :: u11 :: u12 :: u13 :: u14 :: c15 :: u16 :: u17 :: u18 :: u19 :: u20 :: u21 :: u22 :: u23 :: u24 :: u25 :: u26 :: u27 :: u28 :: u29 :: u30 :: u31 :: u32 :: c33 :: c34 :: c35 :: c36 :: c37 :: c38 :: c39 :: c40 :: c41 :: c42 :: c43 :: c44 :: c45 :: c46 :: c47 :: c48 :: c49 :: c50 :: c51 :: c52 :: c53 :: c54 :: c55 :: c56 :: c57 :: c58 :: c59 :: c60 :: c61 :: c62 :: c63 :: c64 :: c65 :: c66 :: c67 :: c68 :: c69 :: c70 :: c71 :: u72 :: u73 :: u74 :: u75 :: u76 :: u77 :: u78 :: u79 :: u80 :: u81 :: u82 :: u83 :: u84 :: u85 :: u86 :: u87 :: u88 :: u89 :: u90 :: u91 :: u92 :: u93 :: u94 :: u95 :: u96 :: u97 :: u98 :: u99 :: u100 :: u101 :: u102 :: u103 :: u104 :: u105 :: u106 :: u107 :: u108 :: u109 :: u110 :: u111 :: u112 :: u113 :: u114 :: u115 :: u116 :: u117 :: u118 :: u119 :: u120 :: u121 :: u122 :: u123 :: u124 :: u125 :: u126 :: u127 :: u128 :: u129 :: u130 :: u131 :: u132 :: u133 :: u134 :: u135 :: u136 :: u137 :: u138 :: u139 :: u140 :: u141 :: u142 :: u143 :: u144 :: u145 :: u146 :: u147 :: u148 :: u149 :: u150 :: u151 :: u152 :: u153 :: u154 :: u155 :: u156 :: u157 :: u158 :: u159 :: u160 :: u161 :: u162 :: u163 :: u164 :: u165 :: u166 :: u167 :: u168 :: u169 :: u170 :: u171 :: u172 :: u173 :: u174 :: u175 :: u176 :: u177 :: u178 :: u179 :: u180 :: u181 :: u182 :: u183 :: u184 :: u185 :: u186 :: u187 :: u188 :: u189 :: u190 :: u191 :: u192 :: u193 :: u194 :: u195 :: u196 :: u197 :: u198 :: u199 :: u200 :: u201 :: u202 :: u203 :: u204 :: u205 :: u206 :: u207 :: u208 :: u209 :: u210 :: u211 :: u212 :: u213 :: u214 :: u215 :: u216 :: u217 :: u218 :: u219 :: u220 :: u221 :: u222 :: u223 :: u224 :: u225 :: u226 :: u227 :: u228 :: u229 :: u230 :: u231 :: u232 :: u233 :: u234 :: u235 :: u236 :: u237 :: u238 :: u239 :: u240 :: u241 :: u242 :: u243 :: u244 :: u245 :: u246 :: u247 :: u248 :: u249 :: u250 :: u251 :: u252 :: u253 :: u254 :: u255 :: u256 :: u257 :: u258 :: u259 :: u260 :: u261 :: u262 :: u263 :: u264 :: u265 :: u266 :: u267 :: u268 :: u269 :: u270 :: u271 :: u272 :: u273 :: u274 :: u275 :: u276 :: u277 :: u278 :: u279 :: u280 :: u281 :: u282 :: u283 :: u284 :: u285 :: u286 :: u287 :: u288 :: u289 :: u290 :: u291 :: u292 :: c293 :: []), []⟩) ∧ sizes.length - (intOf (a'.tmps.getD 16 undef)).toNat < m0) (Exit.inBlock 2 (Exit.then K (bodyPost Try.prog Try.f3 fun e w' => e = .returned (.bool true) ∧ Below w.heap.size w w')))) ⟨List.toArray (.int .i64 segs :: .slice sad sizes.length scap :: .slice gad give.length gcap :: c3 :: c4 :: c5 :: u6 :: .int .i64 (n : Int) :: .pointer (some ⟨b, 0, none⟩) :: .pointer (some ⟨lb, 0, none⟩) :: .int .i64 L.seg :: .int .i64 L.pos :: .int .i64 L.next :: .int .i64 L.seq :: .slice fad1 L.free.length fcap1 :: c15 :: .int .i64 (i : Int) :: u17 :: u18 :: u19 :: u20 :: u21 :: u22 :: u23 :: u24 :: u25 :: u26 :: u27 :: u28 :: u29 :: u30 :: u31 :: u32 :: c33 :: c34 :: c35 :: c36 :: c37 :: c38 :: c39 :: c40 :: c41 :: c42 :: c43 :: c44 :: c45 :: c46 :: c47 :: c48 :: c49 :: c50 :: c51 :: c52 :: c53 :: c54 :: c55 :: c56 :: c57 :: c58 :: c59 :: c60 :: c61 :: c62 :: c63 :: c64 :: c65 :: c66 :: c67 :: c68 :: c69 :: c70 :: c71 :: u72 :: u73 :: u74 :: u75 :: u76 :: u77 :: u78 :: u79 :: u80 :: u81 :: u82 :: u83 :: u84 :: u85 :: u86 :: u87 :: u88 :: u89 :: u90 :: u91 :: u92 :: u93 :: u94 :: u95 :: u96 :: u97 :: u98 :: u99 :: u100 :: u101 :: u102 :: u103 :: u104 :: u105 :: u106 :: u107 :: u108 :: u109 :: u110 :: u111 :: u112 :: u113 :: u114 :: u115 :: u116 :: u117 :: u118 :: u119 :: u120 :: u121 :: u122 :: u123 :: u124 :: u125 :: u126 :: u127 :: u128 :: u129 :: u130 :: u131 :: u132 :: u133 :: u134 :: u135 :: u136 :: u137 :: u138 :: u139 :: u140 :: u141 :: u142 :: u143 :: u144 :: u145 :: u146 :: u147 :: u148 :: u149 :: u150 :: u151 :: u152 :: u153 :: u154 :: u155 :: u156 :: u157 :: u158 :: u159 :: u160 :: u161 :: u162 :: u163 :: u164 :: u165 :: u166 :: u167 :: u168 :: u169 :: u170 :: u171 :: u172 :: u173 :: u174 :: u175 :: u176 :: u177 :: u178 :: u179 :: u180 :: u181 :: u182 :: u183 :: u184 :: u185 :: u186 :: u187 :: u188 :: u189 :: u190 :: u191 :: u192 :: u193 :: u194 :: u195 :: u196 :: u197 :: u198 :: u199 :: u200 :: u201 :: u202 :: u203 :: u204 :: u205 :: u206 :: u207 :: u208 :: u209 :: u210 :: u211 :: u212 :: u213 :: u214 :: u215 :: u216 :: u217 :: u218 :: u219 :: u220 :: u221 :: u222 :: u223 :: u224 :: u225 :: u226 :: u227 :: u228 :: u229 :: u230 :: u231 :: u232 :: u233 :: u234 :: u235 :: u236 :: u237 :: u238 :: u239 :: u240 :: u241 :: u242 :: u243 :: u244 :: u245 :: u246 :: u247 :: u248 :: u249 :: u250 :: u251 :: u252 :: u253 :: u254 :: u255 :: u256 :: u257 :: u258 :: u259 :: u260 :: u261 :: u262 :: u263 :: u264 :: u265 :: u266 :: u267 :: u268 :: u269 :: u270 :: u271 :: u272 :: u273 :: u274 :: u275 :: u276 :: u277 :: u278 :: u279 :: u280 :: u281 :: u282 :: u283 :: u284 :: u285 :: u286 :: u287 :: u288 :: u289 :: u290 :: u291 :: u292 :: c293 :: []), []⟩ wr := by
  conv => arg 2; whnf
  have AW := lohid awake_t
  obtain ⟨sb, so, rfl, hsb, hsx⟩ := HSC.out (by omega)
  have hx := hsx i hil
  rw [← HA.out.below.cell hsb] at hx
  have PLz := lohid (fun w => gplace_t sizes[i] 1048576 w (by decide) (by decide))
  obtain ⟨v, hv, hv2⟩ : ∃ v : Nat, sizes[i] % 1048576 = (v : Int) ∧ v < 1048576 := ⟨(sizes[i] % 1048576).toNat, by omega, by omega⟩
  rw [hv] at PLz hk2
  clear hv hsx
  generalize sizes[i] = z at *
  have hk3 : k2 ≤ 24 := by omega
  obtain ⟨r, hr, hr3⟩ : ∃ r : Nat, (i : Int) % 3 = (r : Int) ∧ r < 3 := ⟨i % 3, by omega, by omega⟩
  have hi60 : i ≤ 60 := by omega
  have BL := lohid (fun w1 => blocks_t v k2 w1 (by omega) (by omega))
  have b0 := HA.out.ok.pos0
  have b1 := HA.out.ok.pos1
  have b2 := HA.out.ok.seg0
  have b3 := HA.out.ok.seg1
  have b4 := HA.out.ok.next0
  have b5 := HA.out.ok.next1
  have b6 := HA.out.ok.seq0
  have b7 := HA.out.ok.seq1
  have b8 := HA.out.ok.few
  go_wp2_with fail
  refine (PLz.out _).mono ?_
  rintro e wp ⟨rfl, rfl⟩
  go_wp2_with fail
  refine (BL.out _).mono ?_
  rintro e w4 ⟨ad, cap, bad, bcap, rfl, hE, hT, hb4⟩
  have HL4 := lohid (HA.out.at_.on hb4)
  have HF4 := lohid (HA.out.fr.on hb4)
  have HB4 : Hid (Below w.heap.size w w4) := HA.out.below.trans (hb4.mono HA.out.below.size)
  have HE4 := lohid hE
  have HT4 := lohid hT
  have hsr : N ≤ wr.heap.size := HA.out.size
  have hs4 : wr.heap.size ≤ w4.heap.size := hb4.size
  have hoff : ∀ q, wr.heap.size ≤ q → ¬ (foot b gd V1 q ∨ q = lb) := fun q hq hf => by
    rcases hf with hf | hf
    · have := HA.out.at_.disk.lt hf
      omega
    · have := HA.out.at_.lt
      omega
  have HOFF := lohid hoff
  clear hE hT hb4 BL PLz hx hoff
  have FT := lohid (law_fits HL4.out HA.out.ok HA.out.n hn8 (by omega) k2 (by omega) HA.out.down)
  rw [hcb] at FT
  have hfl2 : decide (0 < L.free.length) = true := decide_eq_true (by omega)
  have hst2 : decide (L.pos + 1 + (k2 : Int) ≤ 32) = false := decide_eq_false (by omega)
  go_wp2_with fail
  refine FT.out.mono ?_
  rintro e w5 ⟨rfl, hb5⟩
  have HL5 := lohid (HL4.out.on hb5)
  have HF5 := lohid (HF4.out.on hb5)
  have HB5 : Hid (Below w.heap.size w w5) := HB4.out.trans (hb5.mono HB4.out.size)
  have HE5 := lohid (HE4.out.on hb5)
  have HT5 := lohid (HT4.out.on hb5)
  have hs5 : wr.heap.size ≤ w5.heap.size := Nat.le_trans hs4 hb5.size
  clear hb5 FT HL4 HF4 HB4 HE4 HT4 hs4
  go_wp2_with fail
  have htk : took S k2 = true := took_up HA.out.down HA.out.left k2
  have hmk := law_made (HA.out.ok.move hcb) (by omega) (bkX i r v k2) v k2 (by omega) rfl (by show (0 : Int) ≤ i; omega) (by show (i : Int) ≤ 100000; omega) (by show (0 : Int) ≤ r; omega) (by show (r : Int) ≤ 100000; omega) (by show (0 : Int) ≤ 0; omega) (by show (0 : Int) ≤ 100000; omega)
  have h25 : i * 25 ≤ 60 * 25 := Nat.mul_le_mul_right _ hi60
  have hwb : S.writes ≤ i * 25 := HA.out.writes
  have AP := lohid (law_append HL5.out HA.out.ok HA.out.n hn8 (by omega) i r v k2 (by omega) (by omega) (by omega) ad bad cap bcap HE5.out.ents HT5.out.txts hcb (by omega) htk)
  have hRD := read_ok (S := S) (F := (L.move 32 k2).sec 32) hmk (bkT_length v k2) htk HA.out.waits
  obtain ⟨hpB, hpX⟩ := par_is hmk
  obtain ⟨g1, g2⟩ := law_geo HA.out.n hn8 (by omega)
  obtain ⟨m0, m1, m2, m3⟩ := move_in HA.out.ok.ok g1.1 (by omega : k2 ≤ 24) hcb
  obtain ⟨-, -, s2, s3⟩ := sec_in g1 g2 m0 m1 m2 m3
  have hsq1 : (L.move 32 k2).seq = L.seq := by unfold Lg.move; split <;> rfl
  have hsqi : L.seq ≤ 5 + (i : Int) := HA.out.seq
  have hok6 := (HA.out.ok.move hcb).after (bkX i r v k2) m1 (by omega)
  rw [law_head (HA.out.ok.move hcb), hsq1] at AP hRD hpB hpX
  clear g1 g2 hmk
  have hmv : L.move 32 k2 = { L with seg := L.next, pos := 0, next := L.free.headD 0, free := L.free.tail } := if_neg (by omega)
  obtain ⟨fq, fr, hfr⟩ : ∃ fq fr, L.free = fq :: fr := by
    cases hl : L.free with
    | nil => rw [hl] at hfl; exact absurd hfl (by decide)
    | cons fq fr => exact ⟨fq, fr, rfl⟩
  obtain ⟨L1, hL1⟩ : ∃ L1, L.move 32 k2 = L1 := ⟨_, rfl⟩
  rw [hL1] at AP hRD hpB hpX s2 s3 hok6 hmv
  have z1 : L1.seg = L.next := by rw [hmv]
  have z2 : L1.pos = 0 := by rw [hmv]
  have z3 : L1.next = fq := by rw [hmv]; show L.free.headD 0 = fq; rw [hfr]; rfl
  have z4 : L1.seq = L.seq := by rw [hmv]
  have z5 : L1.free = fr := by rw [hmv]; show L.free.tail = fr; rw [hfr]; rfl
  rw [z3] at AP hRD hpB hpX
  rw [z1, z2] at s2 s3
  clear hmv hL1
  obtain ⟨F, hFF⟩ : ∃ F, L1.sec 32 = F := ⟨_, rfl⟩
  rw [hFF] at AP hRD s2
  have hFn : F + 1 + k2 ≤ 48 + 32 * n := by have := HA.out.n; omega
  obtain ⟨L6, hL6⟩ : ∃ L6, L1.after k2 (bkX i r v k2) = L6 := ⟨_, rfl⟩
  have q1 : L6.seg = L.next := by rw [← hL6]; exact z1
  have q2 : L6.pos = 1 + (k2 : Int) := by rw [← hL6]; show L1.pos + (1 + (k2 : Int)) = _; omega
  have q3 : L6.next = fq := by rw [← hL6]; exact z3
  have q4 : L6.seq = L.seq + 1 := by rw [← hL6]; show L1.seq + 1 = _; omega
  have q5 : L6.free = fr := by rw [← hL6]; exact z5
  rw [hL6] at AP hok6
  obtain ⟨T, hTT⟩ : ∃ T, makeS ⟨3, 7, 2, L.seq, fq, (i : Int), (r : Int), 0, bkE v k2⟩ (bkT v k2) = T := ⟨_, rfl⟩
  rw [hTT] at AP hRD hpB hpX
  have hsn : (chunk S 3 F T k2).n = 48 + 32 * n := chunk_n.trans HA.out.n
  have hsl : (chunk S 3 F T k2).left = 0 := by rw [chunk_left htk, HA.out.left]; omega
  have hsd : (chunk S 3 F T k2).down = false := chunk_up htk HA.out.left
  have hsw : (chunk S 3 F T k2).writes ≤ (i + 1) * 25 := by rw [chunk_writes htk, Nat.add_mul, Nat.one_mul]; omega
  have hsa : ∀ o, o ≠ 3 → (chunk S 3 F T k2).waits o = [] := fun o ho => by rw [chunk_other ho]; exact HA.out.waits o ho
  generalize chunk S 3 F T k2 = S6 at *
  refine AP.out.mono ?_
  rintro e w6 ⟨a, V6, v6, rfl, hrow, ha, -, hL6w, hs6⟩
  have hE6 : EOwn w6 wr.heap.size (.slice ad k2 cap) (bkE v k2) := owns_of_block HE5.out fun q hq => hs6.keep.block q (HE5.out.lt q hq).2 (HOFF.out q (HE5.out.lt q hq).1)
  have hT6 : TOwn w6 wr.heap.size (.slice bad k2 bcap) (bkT v k2) := owns_of_block HT5.out fun q hq => hs6.keep.block q (HT5.out.lt q hq).2 (HOFF.out q (HT5.out.lt q hq).1)
  have hlbN : lb < N := HA.out.hN
  have hF6 : FreeAt w6 (fun q => N ≤ q ∧ ¬ foot b gd V6 q) (.slice fad1 L.free.length fcap1) L.free :=
    HF5.out.keep hs6.keep (fun q hq hf => hf.elim hq.2 (fun e => by have := hq.1; omega)) (fun q hl hq => ⟨hq.1, hs6.off hl hq.2⟩)
  have hs56 : w5.heap.size ≤ w6.heap.size := hs6.keep.size
  have hbel6 : Below w.heap.size w w6 := hs6.under HB5.out HA.out.foots hlb2 (Nat.le_refl _)
  have hft6 := hs6.foots HA.out.foots HB5.out.size
  have hlfr : L.free.length = fr.length + 1 := by rw [hfr]; rfl
  have hfb : ∃ fb off cur, fad1 = some ⟨fb, off, none⟩ ∧ (N ≤ fb ∧ ¬ foot b gd V6 fb) ∧ w6.heap[fb]? = some (.cells cur 3 (0, 0)) ∧ off + fcap1 ≤ cur.size ∧ fr.length + 1 ≤ fcap1 ∧ fcap1 ≤ 9223372036854775807 ∧ cur[off]? = some (.int .i64 fq) ∧ ∀ q (h : q < fr.length), cur[off + 1 + q]? = some (.int .i64 fr[q]) := by
    obtain ⟨ad7, cap7, hv7, y1, y2, y3⟩ := hF6
    injection hv7 with x1 x2 x3
    subst x1 x3
    rw [hfr] at y1 y3
    obtain ⟨fb, off, cur, h1, h2, h3, h4, h5⟩ := y3 (by simp at y1; omega)
    refine ⟨fb, off, cur, h1, h2, h3, h4, by simpa using y1, y2, ?_, fun q hq => ?_⟩
    · have := h5 0 (by simp)
      simpa using this
    · have := h5 (q + 1) (by simpa using hq)
      rw [show off + 1 + q = off + (q + 1) by omega, this]
      rfl
  obtain ⟨fb, off, cur, rfl, hfP, hfg, hfs, hfc, hfm, hf0, hfx⟩ := hfb
  obtain ⟨fad2, htl, had2⟩ := tail_run fb off fr.length fcap1 hfc
  have hFr6 : FreeAt w6 (fun q => N ≤ q ∧ ¬ foot b gd V6 q) (.slice fad2 fr.length (fcap1 - 1)) fr := by
    refine ⟨fad2, fcap1 - 1, rfl, by omega, by omega, fun h1 => ?_⟩
    rcases had2 with h2 | rfl
    · omega
    · exact ⟨fb, off + 1, cur, rfl, hfP, hfg, by omega, fun q hq => hfx q hq⟩
  have hf00 : w6.cell? ⟨fb, off, none⟩ = some (.int .i64 fq) := (cell_of_row _ _ _ _ _ _ hfg).trans hf0
  clear hfP hfg hfs hfx had2 hf0
  rw [hlfr]
  have hpos32 : (32 : Int) < L.pos + 1 + (k2 : Int) := by omega
  have HA6w : Hid (AppAt n lb b gd N (i + 1) w w6 S6 V6 L6 v6 (.slice fad2 fr.length (fcap1 - 1))) :=
    ⟨hok6, hL6w, by rw [q5]; exact hFr6, hsn, hsl, hsd, hsw, hsa, by omega, hlbN, by omega, hbel6, hft6⟩
  have RD : Hid (∀ (j : Nat) (wx : World) (_ : j ≤ k2) (_ : Below w6.heap.size w6 wx), Calls Try.prog 14 #[.pointer (some ⟨b, 0, none⟩), .int .i64 ((F + j : Nat) : Int)] wx fun e w' => e = .returned (.tuple #[.string (blkT T j), .bool true]) ∧ Below wx.heap.size wx w') := fun j wx hj hb => by
    have h := disk_read (hL6w.disk.below hb) (F + j) (by rw [hsn]; omega) hsd
    rw [hRD.read j hj] at h
    exact h
  have HRD := lohid hRD
  have hTs : T.size ≤ 100000 := by rw [hRD.size]; omega
  have PA := lohid (fun wx => rparse_t T wx hTs)
  rw [hpB, hpX] at PA
  have HE6 := lohid hE6
  have HT6 := lohid hT6
  have HRW := lohid hrow
  have halt : a < w6.heap.size := (Array.getElem?_eq_some_iff.1 hrow).1
  have hFi : 48 + 32 * L.next = (F : Int) := by omega
  clear hE6 hT6 hF6 hrow hRD hpB hpX hTT hL6w hs6 hok6 hsn hsl hsd hsw hsa hbel6 hft6 AP HA HOFF HL5 HF5 HB5 HE5 HT5 htk hwb hsq1 hsqi hFF hL6 s2 s3 m0 m1 m2 m3 h25 hTs
  go_wp2_with fail
  go_quiet (fail)
  generalize hW7 : w6.drewN _ = w7
  have hb67 : Below w6.heap.size w6 w7 := by rw [← hW7]; exact ⟨rfl, rfl, rfl, Nat.le_refl _, fun _ _ => rfl⟩
  clear hW7 htl hf00
  go_wp2_with fail
  go_loopw [25, 26] (fun sv q wr => ∃ j : Nat, j ≤ k2 + 1 ∧ q = .int .i64 j ∧ sv = .string (T.extract 0 (256 * j)) ∧ Hid (Below w6.heap.size w6 wr)) (fun _ q _ => k2 + 1 - (intOf q).toNat)
  case atStart => exact ⟨0, Nat.zero_le _, rfl, by rw [Nat.mul_zero, ext_zero], hb67⟩
  case round =>
    obtain ⟨j, hj, rfl, rfl, HJ⟩ := hrel
    rcases Nat.lt_or_ge k2 j with hjk | hjk
    · have hjk2 : j = k2 + 1 := by omega
      subst hjk2
      rw [ext_all HRD.out.size]
      have HA7 := lohid (HA6w.out.on HJ.out)
      have HE7 := lohid (HE6.out.on HJ.out)
      have e0 : ((k2 + 1 : Nat) : Int) = (k2 : Int) + 1 := rfl
      rw [e0]
      clear HJ HA6w HE6 HT6 HRW RD HRD e0
      go_wp2_with fail
      refine (PA.out _).mono ?_
      rintro e w8 ⟨v8, bv8, rfl, hE8, -, hb8⟩
      have HA8 := lohid (HA7.out.on hb8)
      have HE8 := lohid (HE7.out.on hb8)
      have HX8 := lohid hE8
      obtain ⟨ad8, cap8, rfl, -, -⟩ := hE8
      clear hb8 HA7 HE7 PA
      rw [bkE_length] at HX8 ⊢
      go_wp2_with fail
      refine (same_t ⟨3, 7, 2, L.seq, fq, (i : Int), (r : Int), 0, bkE v k2⟩ (.slice ad8 k2 cap8) (.slice ad k2 cap) _ (HX8.out.on ((Below.refl _ _).alloc (Nat.le_refl _) _)) (HE8.out.ents.on ((Below.refl _ _).alloc (Nat.le_refl _) _)) (by show (bkE v k2).length ≤ _; rw [bkE_length]; omega)).mono ?_
      rintro e w9 ⟨rfl, hb9⟩
      have HA6 := lohid ((HA8.out.on ((Below.refl _ _).alloc (Nat.le_refl _) _)).on hb9)
      clear hb9 HA8 HE8 HX8
      go_wp2_with fail
      have q6 := HA6.out.ok.num
      have q7 := HA6.out.ok.life
      have q8 := HA6.out.ok.few
      rw [q5] at q8
      have q9 := HA6.out.ok.seq1
      refine (place_t lb b _ 32 L6 v6 _ _ HA6.out.at_.row).mono ?_
      rintro e wa ⟨rfl, hba⟩
      have HAa := lohid (HA6.out.on hba)
      clear hba HA6
      go_wp2_with fail
      generalize hWb : World.alloc wa _ = wb
      have hbw : Below wa.heap.size wa wb := by rw [← hWb]; exact (Below.refl _ _).alloc (Nat.le_refl _) _
      have HAb := lohid (HAa.out.on hbw)
      clear hWb HAa hbw
      have FR := free_t14 lb b _ 32 L6 v6 _ wb HAb.out.at_.row HAb.out.at_.free.nums (by have := HAb.out.ok.few; omega)
      rw [q5] at FR
      refine FR.mono ?_
      rintro e wc ⟨vc, rfl, hOc, hbc⟩
      obtain ⟨adc, capc, rfl⟩ := hOc.slice
      have HIc := lohid hOc.ints
      have HAc := lohid (HAb.out.on hbc)
      have hnc := HAc.out.fr.nums
      rw [q5] at hnc
      have HNC := lohid hnc
      clear hOc hbc HAb FR hnc
      go_wp2_with fail
      refine (sameInts_yes (.slice adc fr.length capc) (.slice fad2 fr.length (fcap1 - 1)) fr wc (by omega) HIc.out HNC.out).mono ?_
      rintro e wd ⟨rfl, hbd⟩
      have HAd := lohid (HAc.out.on hbd)
      clear hbd HAc HIc HNC q6 q7
      have HNX : Hid (AppAt n lb b gd N (i + 1) w wd S6 V6 L6 v6 (.slice fad2 L6.free.length (fcap1 - 1))) := by rw [q5]; exact HAd.out
      rcases Nat.lt_or_ge i give.length with hig | hig
      · obtain ⟨gb, go, hgd, hgb, hgx⟩ := HGC.out (by omega)
        subst hgd
        have hgc := hgx i hig
        rw [← HAd.out.below.cell hgb] at hgc
        have PLg := lohid (fun w => gplace_t give[i] 3 w (by decide) (by decide))
        obtain ⟨t, ht, ht3⟩ : ∃ t : Nat, give[i] % 3 = (t : Int) ∧ t < 3 := ⟨(give[i] % 3).toNat, by omega, by omega⟩
        rw [ht] at PLg
        clear ht hgx
        generalize give[i] = y at *
        have higi : (i : Int) < (give.length : Int) := by omega
        go_wp2_with fail
        refine (PLg.out _).mono ?_
        rintro e wp ⟨rfl, rfl⟩
        clear PLg hgc
        rcases Nat.eq_zero_or_pos t with rfl | ht0
        · have e0 : ((0 : Nat) : Int) = 0 := rfl
          rw [e0]
          clear e0 HNX
          go_wp2_with fail
          have GV := give_t lb b _ 32 L6 v6 _ (500 + (i : Int)) _ wd HAd.out.at_.row HAd.out.at_.free (fun q hq => hq.2.2) (by have := HAd.out.ok.few; omega)
          rw [q5] at GV
          refine GV.mono ?_
          rintro e we ⟨ve, rfl, hre, hIe, hKe⟩
          have hlbN2 := HAd.out.hN
          have hFe := HAd.out.fr.keep (Q := fun _ => True) hKe (fun q hq hf => by
            rcases hf with hf | hf
            · have := hf.2.2
              have := hq.1
              omega
            · have := hq.1
              omega) (fun _ _ _ => trivial)
          rw [q5] at hFe
          have hbb := HAd.out.foots b (.inl rfl)
          have hBe : Below w.heap.size w we := HAd.out.below.trans (hKe.below HAd.out.below.size (fun q hq => by
            rcases hq with hq | hq
            · have := hq.2.1
              omega
            · omega))
          have HFe := lohid hFe.nums
          have HBe := lohid hBe
          have HRe := lohid hre
          have HIe := lohid hIe
          clear hre hIe hKe hFe hbb hBe HAd hlbN2 GV
          have hle1 : (fr ++ [500 + (i : Int)]).length = fr.length + 1 := by rw [List.length_append]; rfl
          have HLE := lohid hle1
          clear hle1
          go_wp2_with (first
            | (refine wpList_append_ints rfl _ _ rfl we.heap.size _ [] rfl (IOwn.nil _ _) _ fr rfl HFe.out ?c5 (Nat.le_refl _) ?_)
            | fail)
          case c5 => simp; omega
          intro vf wf hOf hbf hlef
          have HOf := lohid hOf
          have HBf := lohid hbf
          clear hOf hbf HFe
          go_wp2_with (first
            | (refine wpList_append_one rfl _ _ rfl we.heap.size _ fr rfl (HOf.out.on ((Below.refl _ _).alloc (Nat.le_refl _) _)) wf.heap.size 1 [500 + (i : Int)] rfl 3 (0, 0) (heap_alloc_new _ _) (by simp) ?c6 ?c7 ?_)
            | fail)
          case c6 => simp; omega
          case c7 => simp; omega
          intro vg wg hOg hbg hleg
          have HOg := lohid hOg.ints
          obtain ⟨adg, capg, rfl⟩ := hOg.slice
          rw [HLE.out] at HOg ⊢
          have HBg : Hid (Below we.heap.size we wg) := (HBf.out.alloc hlef (.cells (icells [500 + (i : Int)]).toArray 3)).trans hbg
          clear hOg hbg HOf HBf
          go_wp2_with fail
          refine (free_t14 lb b _ 32 { L6 with free := fr ++ [500 + (i : Int)] } ve _ wg (row_on HRe.out HBg.out) (HIe.out.on HBg.out) (by show (fr ++ [500 + (i : Int)]).length ≤ _; rw [List.length_append]; show fr.length + 1 ≤ _; omega)).mono ?_
          rintro e wh ⟨vh, rfl, hOh, hbh⟩
          obtain ⟨adh, caph, rfl⟩ := hOh.slice
          have HOh := lohid hOh.ints
          rw [HLE.out] at HOh ⊢
          have HOg2 := lohid (HOg.out.on hbh)
          have HBh : Hid (Below w.heap.size w wh) := HBe.out.trans ((HBg.out.trans (hbh.mono HBg.out.size)).mono HBe.out.size)
          clear hOh hbh HOg HBg HBe HRe HIe
          go_wp2_with fail
          refine (sameInts_yes (.slice adh (fr.length + 1) caph) (.slice adg (fr.length + 1) capg) (fr ++ [500 + (i : Int)]) wh (by rw [List.length_append]; show fr.length + 1 ≤ _; omega) HOh.out HOg2.out).mono ?_
          rintro e wi ⟨rfl, hbi⟩
          have HBi : Hid (Below w.heap.size w wi) := HBh.out.trans (hbi.mono HBh.out.size)
          clear hbi HBh HOh HOg2
          go_wp2_with fail
          refine (AW.out _).mono ?_
          rintro e wj ⟨rfl, hbj⟩
          have HBj : Hid (Below w.heap.size w wj) := HBi.out.trans (hbj.mono HBi.out.size)
          clear hbj HBi
          go_wp2_with fail
          go_ret
          exact ⟨rfl, HBj.out⟩
        · have hnt : ((t : Int) == 0) = false := by simp; omega
          clear HAd
          go_wp2_with fail
          exact ⟨⟨i + 1, hil, by go_num, S6, V6, L6, v6, _, _, by rw [q1], by rw [q2], by rw [q3], by rw [q4], by rw [q5], HNX⟩, by rw [← hm0.out]; simp [intOf]; omega⟩
      · have higi : ¬ (i : Int) < (give.length : Int) := by omega
        clear HAd
        go_wp2_with fail
        exact ⟨⟨i + 1, hil, by go_num, S6, V6, L6, v6, _, _, by rw [q1], by rw [q2], by rw [q3], by rw [q4], by rw [q5], HNX⟩, by rw [← hm0.out]; simp [intOf]; omega⟩
    · obtain ⟨A, hA⟩ : ∃ A, T.extract 0 (256 * j) = A := ⟨_, rfl⟩
      obtain ⟨B, hB⟩ : ∃ B, blkT T j = B := ⟨_, rfl⟩
      have HAB : Hid (A ++ B = T.extract 0 (256 * (j + 1))) := by rw [← hA, ← hB]; exact ext_more HRD.out.size hjk
      have hAs : ¬ 9223372036854775806 < A.size := by rw [← hA, ByteArray.size_extract]; omega
      have hBs : B.size = 256 := by rw [← hB]; exact blkT_size HRD.out.size hjk
      have hAB : A.size + B.size ≤ 100000 := by rw [← hA, hBs, ByteArray.size_extract, HRD.out.size]; omega
      have RDj := lohid (RD.out j wr hjk HJ.out)
      rw [hB] at RDj
      rw [hA]
      rcases Nat.eq_zero_or_pos j with rfl | hj0
      · have e0 : ((0 : Nat) : Int) = 0 := rfl
        rw [e0]
        clear e0 hA hB
        go_wp2_with fail
        refine RDj.out.mono ?_
        rintro e w7 ⟨rfl, hb7⟩
        have HN7 : Hid (Below w6.heap.size w6 w7) := HJ.out.trans (hb7.mono HJ.out.size)
        clear hb7 HJ RDj
        go_wp2_with fail
        exact ⟨⟨1, by omega, rfl, by rw [HAB.out], HN7⟩, by simp [intOf]⟩
      · obtain ⟨j1, rfl⟩ : ∃ j1, j = j1 + 1 := ⟨j - 1, by omega⟩
        have hra := row_on HRW.out HJ.out
        have ca : wr.cell? ⟨a, j1, none⟩ = some (.int .i64 ((F : Int) + ((j1 : Int) + 1))) := by
          rw [cell_of_row _ _ _ _ _ _ hra, List.getElem?_toArray, icells_get _ _ (by rw [posL_length]; omega)]
          simp [posL]
          omega
        obtain ⟨tb, tq, hbd, hbx⟩ : ∃ tb tq, bad = some ⟨tb, tq, none⟩ ∧ wr.cell? ⟨tb, tq + j1, none⟩ = some (.string B) := by
          obtain ⟨ad2, cap2, hv2, -, -, hcc⟩ := (HT6.out.on HJ.out).txts
          injection hv2 with y1 y2 y3
          subst y1
          obtain ⟨tb, tq, h1, h2, h3⟩ := hcc (by rw [bkT_length]; omega)
          refine ⟨tb, tq, h1, ?_⟩
          have h4 := h3 j1 (by rw [bkT_length]; omega)
          have h5 := HRD.out.blk j1 (by rw [bkT_length]; omega)
          rw [h4, ← h5, hB]
        subst hbd
        have e0 : ((j1 + 1 : Nat) : Int) = (j1 : Int) + 1 := rfl
        rw [e0]
        rw [show ((F + (j1 + 1) : Nat) : Int) = (F : Int) + ((j1 : Int) + 1) by omega] at RDj
        clear e0 hA hB hra
        go_wp2_with fail
        refine RDj.out.mono ?_
        rintro e w7 ⟨rfl, hb7⟩
        have HN7 : Hid (Below w6.heap.size w6 w7) := HJ.out.trans (hb7.mono HJ.out.size)
        have ca7 := (hb7.cell (block_lt_of_cell ca)).trans ca
        have hbx7 := (hb7.cell (block_lt_of_cell hbx)).trans hbx
        clear hb7 HJ RDj ca hbx
        go_wp2_with fail
        exact ⟨⟨j1 + 1 + 1, by omega, rfl, by rw [HAB.out], HN7⟩, by simp [intOf]; omega⟩
end Go.Proofs.Ytgbgklnlmgpmjaa
