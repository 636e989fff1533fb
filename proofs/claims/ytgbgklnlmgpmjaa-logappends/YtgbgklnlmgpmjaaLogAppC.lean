/- A round of LogAppends: there is no room. -/
import Derived.Test.YtgbgklnlmgpmjaaLogLoop
namespace Go.Proofs.Ytgbgklnlmgpmjaa
open Go.RowKit Lo Hdp Chk Rec

set_option maxRecDepth 1000000 in
set_option maxHeartbeats 40000000 in
theorem round_C {segs : Int} {sizes give : List Int} {w wr : World} {sad gad : Option Addr} {scap gcap n b gd lb N i m0 : Nat} {S : St} {V1 : Nat → Value} {L : Lg} {v1 : Value} {fad1 : Option Addr} {fcap1 : Nat} {K : Act → World → Prop} {c3 c4 c5 c15 c33 c34 c35 c36 c37 c38 c39 c40 c41 c42 c43 c44 c45 c46 c47 c48 c49 c50 c51 c52 c53 c54 c55 c56 c57 c58 c59 c60 c61 c62 c63 c64 c65 c66 c67 c68 c69 c70 c71 c293 : Value} {u6 u17 u18 u19 u20 u21 u22 u23 u24 u25 u26 u27 u28 u29 u30 u31 u32 u72 u73 u74 u75 u76 u77 u78 u79 u80 u81 u82 u83 u84 u85 u86 u87 u88 u89 u90 u91 u92 u93 u94 u95 u96 u97 u98 u99 u100 u101 u102 u103 u104 u105 u106 u107 u108 u109 u110 u111 u112 u113 u114 u115 u116 u117 u118 u119 u120 u121 u122 u123 u124 u125 u126 u127 u128 u129 u130 u131 u132 u133 u134 u135 u136 u137 u138 u139 u140 u141 u142 u143 u144 u145 u146 u147 u148 u149 u150 u151 u152 u153 u154 u155 u156 u157 u158 u159 u160 u161 u162 u163 u164 u165 u166 u167 u168 u169 u170 u171 u172 u173 u174 u175 u176 u177 u178 u179 u180 u181 u182 u183 u184 u185 u186 u187 u188 u189 u190 u191 u192 u193 u194 u195 u196 u197 u198 u199 u200 u201 u202 u203 u204 u205 u206 u207 u208 u209 u210 u211 u212 u213 u214 u215 u216 u217 u218 u219 u220 u221 u222 u223 u224 u225 u226 u227 u228 u229 u230 u231 u232 u233 u234 u235 u236 u237 u238 u239 u240 u241 u242 u243 u244 u245 u246 u247 u248 u249 u250 u251 u252 u253 u254 u255 u256 u257 u258 u259 u260 u261 u262 u263 u264 u265 u266 u267 u268 u269 u270 u271 u272 u273 u274 u275 u276 u277 u278 u279 u280 u281 u282 u283 u284 u285 u286 u287 u288 u289 u290 u291 u292 : Value}
    (hl1 : sizes.length ≤ 9223372036854775807) (hl2 : give.length ≤ 9223372036854775807) (hn8 : 8 ≤ n) (hn15 : n ≤ 15) (hlb2 : w.heap.size ≤ lb) (h60 : ¬ 60 < sizes.length) (hil : i < sizes.length) (hm0 : Hid (sizes.length - i = m0))
    (HSC : Hid (0 < sizes.length → ∃ b off, sad = some ⟨b, off, none⟩ ∧ b < w.heap.size ∧ ∀ (i : Nat) (h : i < sizes.length), w.cell? ⟨b, off + i, none⟩ = some (.int .i64 sizes[i])))
    (HGC : Hid (0 < give.length → ∃ b off, gad = some ⟨b, off, none⟩ ∧ b < w.heap.size ∧ ∀ (i : Nat) (h : i < give.length), w.cell? ⟨b, off + i, none⟩ = some (.int .i64 give[i])))
    (HA : Hid (AppAt n lb b gd N i w wr S V1 L v1 (.slice fad1 L.free.length fcap1))) (k2 : Nat) (hk2 : (sizes[i] % 1048576) % 25 = (k2 : Int)) (hst : ¬ L.pos + 1 + (k2 : Int) ≤ 32) (hfl : ¬ (0 : Int) < (L.free.length : Int)) (hcb : L.canB 32 k2 = false) :
    Code.wp Try.prog lawBody (Exit.then (fun a' w' => (∃ u6 u10 u11 u12 u13 u14 u16 u17 u18 u19 u20 u21 u22 u23 u24 u25 u26 u27 u28 u29 u30 u31 u32 u72 u73 u74 u75 u76 u77 u78 u79 u80 u81 u82 u83 u84 u85 u86 u87 u88 u89 u90 u91 u92 u93 u94 u95 u96 u97 u98 u99 u100 u101 u102 u103 u104 u105 u106 u107 u108 u109 u110 u111 u112 u113 u114 u115 u116 u117 u118 u119 u120 u121 u122 u123 u124 u125 u126 u127 u128 u129 u130 u131 u132 u133 u134 u135 u136 u137 u138 u139 u140 u141 u142 u143 u144 u145 u146 u147 u148 u149 u150 u151 u152 u153 u154 u155 u156 u157 u158 u159 u160 u161 u162 u163 u164 u165 u166 u167 u168 u169 u170 u171 u172 u173 u174 u175 u176 u177 u178 u179 u180 u181 u182 u183 u184 u185 u186 u187 u188 u189 u190 u191 u192 u193 u194 u195 u196 u197 u198 u199 u200 u201 u202 u203 u204 u205 u206 u207 u208 u209 u210 u211 u212 u213 u214 u215 u216 u217 u218 u219 u220 u221 u222 u223 u224 u225 u226 u227 u228 u229 u230 u231 u232 u233 u234 u235 u236 u237 u238 u239 u240 u241 u242 u243 u244 u245 u246 u247 u248 u249 u250 u251 u252 u253 u254 u255 u256 u257 u258 u259 u260 u261 u262 u263 u264 u265 u266 u267 u268 u269 u270 u271 u272 u273 u274 u275 u276 u277 u278 u279 u280 u281 u282 u283 u284 u285 u286 u287 u288 u289 u290 u291 u292 : Value, (∃ i : Nat, i ≤ sizes.length ∧ u16 = .int .i64 i ∧ ∃ S V L vv fad fcap, u10 = .int .i64 L.seg ∧ u11 = .int .i64 L.pos ∧ u12 = .int .i64 L.next ∧ u13 = .int .i64 L.seq ∧ u14 = .slice fad L.free.length fcap ∧ Hid (AppAt n lb b gd N i w w' S V L vv (.slice fad L.free.length fcap))) ∧ a' = ⟨List.toArray (.int .i64 segs :: .slice sad sizes.length scap :: .slice gad give.length gcap :: c3 :: c4 :: c5 :: u6 :: .int .i64 (n : Int) :: .pointer (some ⟨b, 0, none⟩) :: .pointer (some ⟨lb, 0, none⟩) :: u10 :: u11 :: u12 :: u13 :: u14 :: c15 :: u16 :: u17 :: u18 :: u19 :: u20 :: u21 :: u22 :: u23 :: u24 :: u25 :: u26 :: u27 :: u28 :: u29 :: u30 :: u31 :: u32 :: c33 :: c34 :: c35 :: c36 :: c37 :: c38 :: c39 :: c40 :: c41 :: c42 :: c43 :: c44 :: c45 :: c46 :: c47 :: c48 :: c49 :: c50 :: c51 :: c52 :: c53 :: c54 :: c55 :: c56 :: c57 :: c58 :: c59 :: c60 :: c61 :: c62 :: c63 :: c64 :: c65 :: c66 :: c67 :: c68 :: c69 :: c70 :: c71 :: u72 :: u73 :: u74 :: u75 :: u76 :: u77 :: u78 :: u79 :: u80 :: u81 :: u82 :: u83 :: u84 :: u85 :: u86 :: u87 :: u88 :: u89 :: u90 :: u91 :: u92 :: u93 :: u94 :: u95 :: u96 :: u97 :: u98 :: u99 :: u100 :: u101 :: u102 :: u103 :: u104 :: u105 :: u106 :: u107 :: u108 :: u109 :: u110 :: u111 :: u112 :: u113 :: u114 :: u115 :: u116 :: u117 :: u118 :: u119 :: u120 :: u121 :: u122 :: u123 :: u124 :: u125 :: u126 :: u127 :: u128 :: u129 :: u130 :: u131 :: u132 :: u133 :: u134 :: u135 :: u136 :: u137 :: u138 :: u139 :: u140 :: u141 :: u142 :: u143 :: u144 :: u145 :: u146 :: u147 :: u148 :: u149 :: u150 :: u151 :: u152 :: u153 :: u154 :: u155 :: u156 :: u157 :: u158 :: u159 :: u160 :: u161 :: u162 :: u163 :: u164 :: u165 :: u166 :: u167 :: u168 :: u169 :: u170 :: u171 :: u172 :: u173 :: u174 :: u175 :: u176 :: u177 :: u178 :: u179 :: u180 :: u181 :: u182 :: u183 :: u184 :: u185 :: u186 :: u187 :: u188 :: u189 :: u190 :: u191 :: u192 :: u193 :: u194 :: u195 :: u196 :: u197 :: u198 :: u199 :: u200 :: u201 :: u202 :: u203 :: u204 :: u205 :: u206 :: u207 :: u208 :: u209 :: u210 :: u211 :: u212 :: u213 :: u214 :: u215 :: u216 :: u217 :: u218 :: u219 :: u220 :: u221 :: u222 :: u223 :: u224 :: u225 :: u226 :: u227 :: u228 :: u229 :: u230 :: u231 :: u232 :: u233 :: u234 :: u235 :: u236 :: u237 :: u238 :: u239 :: u240 :: u241 :: u242 :: u243 :: u244 :: u245 :: u246 :: u247 :: u248 :: u249 :: u250 :: u251 :: u252 :: u253 :: u254 :: u255 :: u256 :: u257 :: u258 :: u259 :: u260 :: u261 :: u262 :: u263 :: u264 :: u265 :: u266 :: u267 :: u268 :: u269 :: u270 :: u271 :: u272 :: u273 :: u274 :: u275 :: u276 :: u277 :: u278 :: u279 :: u280 :: u281 :: u282 :: u283 :: u284 :: u285 :: u286 :: u287 :: u288 :: u289 :: u290 :: u291 :: u292 :: c293 :: []), []⟩) ∧ sizes.length - (intOf (a'.tmps.getD 16 undef)).toNat < m0) (Exit.inBlock 2 (Exit.then K (bodyPost Try.prog Try.f3 fun e w' => e = .returned (.bool true) ∧ Below w.heap.size w w')))) ⟨List.toArray (.int .i64 segs :: .slice sad sizes.length scap :: .slice gad give.length gcap :: c3 :: c4 :: c5 :: u6 :: .int .i64 (n : Int) :: .pointer (some ⟨b, 0, none⟩) :: .pointer (some ⟨lb, 0, none⟩) :: .int .i64 L.seg :: .int .i64 L.pos :: .int .i64 L.next :: .int .i64 L.seq :: .slice fad1 L.free.length fcap1 :: c15 :: .int .i64 (i : Int) :: u17 :: u18 :: u19 :: u20 :: u21 :: u22 :: u23 :: u24 :: u25 :: u26 :: u27 :: u28 :: u29 :: u30 :: u31 :: u32 :: c33 :: c34 :: c35 :: c36 :: c37 :: c38 :: c39 :: c40 :: c41 :: c42 :: c43 :: c44 :: c45 :: c46 :: c47 :: c48 :: c49 :: c50 :: c51 :: c52 :: c53 :: c54 :: c55 :: c56 :: c57 :: c58 :: c59 :: c60 :: c61 :: c62 :: c63 :: c64 :: c65 :: c66 :: c67 :: c68 :: c69 :: c70 :: c71 :: u72 :: u73 :: u74 :: u75 :: u76 :: u77 :: u78 :: u79 :: u80 :: u81 :: u82 :: u83 :: u84 :: u85 :: u86 :: u87 :: u88 :: u89 :: u90 :: u91 :: u92 :: u93 :: u94 :: u95 :: u96 :: u97 :: u98 :: u99 :: u100 :: u101 :: u102 :: u103 :: u104 :: u105 :: u106 :: u107 :: u108 :: u109 :: u110 :: u111 :: u112 :: u113 :: u114 :: u115 :: u116 :: u117 :: u118 :: u119 :: u120 :: u121 :: u122 :: u123 :: u124 :: u125 :: u126 :: u127 :: u128 :: u129 :: u130 :: u131 :: u132 :: u133 :: u134 :: u135 :: u136 :: u137 :: u138 :: u139 :: u140 :: u141 :: u142 :: u143 :: u144 :: u145 :: u146 :: u147 :: u148 :: u149 :: u150 :: u151 :: u152 :: u153 :: u154 :: u155 :: u156 :: u157 :: u158 :: u159 :: u160 :: u161 :: u162 :: u163 :: u164 :: u165 :: u166 :: u167 :: u168 :: u169 :: u170 :: u171 :: u172 :: u173 :: u174 :: u175 :: u176 :: u177 :: u178 :: u179 :: u180 :: u181 :: u182 :: u183 :: u184 :: u185 :: u186 :: u187 :: u188 :: u189 :: u190 :: u191 :: u192 :: u193 :: u194 :: u195 :: u196 :: u197 :: u198 :: u199 :: u200 :: u201 :: u202 :: u203 :: u204 :: u205 :: u206 :: u207 :: u208 :: u209 :: u210 :: u211 :: u212 :: u213 :: u214 :: u215 :: u216 :: u217 :: u218 :: u219 :: u220 :: u221 :: u222 :: u223 :: u224 :: u225 :: u226 :: u227 :: u228 :: u229 :: u230 :: u231 :: u232 :: u233 :: u234 :: u235 :: u236 :: u237 :: u238 :: u239 :: u240 :: u241 :: u242 :: u243 :: u244 :: u245 :: u246 :: u247 :: u248 :: u249 :: u250 :: u251 :: u252 :: u253 :: u254 :: u255 :: u256 :: u257 :: u258 :: u259 :: u260 :: u261 :: u262 :: u263 :: u264 :: u265 :: u266 :: u267 :: u268 :: u269 :: u270 :: u271 :: u272 :: u273 :: u274 :: u275 :: u276 :: u277 :: u278 :: u279 :: u280 :: u281 :: u282 :: u283 :: u284 :: u285 :: u286 :: u287 :: u288 :: u289 :: u290 :: u291 :: u292 :: c293 :: []), []⟩ wr := by
  conv => arg 2; whnf
  have AW := lohid awake_t
  obtain ⟨sb, so, rfl, hsb, hsx⟩ := HSC.out (by omega)
  have hx := hsx i hil
  rw [← HA.out.below.cell hsb] at hx
  have PLz := lohid (fun w => gplace_t sizes[i] 1048576 w (by decide) (by decide))
  obtain ⟨v, hv, hv2⟩ : ∃ v : Nat, sizes[i] % 1048576 = (v : Int) ∧ v < 1048576 := ⟨(sizes[i] % 1048576).toNat, by omega, by omega⟩
  rw [hv] at PLz hk2
  clear hv hsx
  generalize sizes[i] = z at *
  have hk3 : k2 ≤ 24 := by omega
  obtain ⟨r, hr, hr3⟩ : ∃ r : Nat, (i : Int) % 3 = (r : Int) ∧ r < 3 := ⟨i % 3, by omega, by omega⟩
  have hi60 : i ≤ 60 := by omega
  have BL := lohid (fun w1 => blocks_t v k2 w1 (by omega) (by omega))
  have b0 := HA.out.ok.pos0
  have b1 := HA.out.ok.pos1
  have b2 := HA.out.ok.seg0
  have b3 := HA.out.ok.seg1
  have b4 := HA.out.ok.next0
  have b5 := HA.out.ok.next1
  have b6 := HA.out.ok.seq0
  have b7 := HA.out.ok.seq1
  have b8 := HA.out.ok.few
  go_wp2_with fail
  refine (PLz.out _).mono ?_
  rintro e wp ⟨rfl, rfl⟩
  go_wp2_with fail
  refine (BL.out _).mono ?_
  rintro e w4 ⟨ad, cap, bad, bcap, rfl, hE, hT, hb4⟩
  have HL4 := lohid (HA.out.at_.on hb4)
  have HF4 := lohid (HA.out.fr.on hb4)
  have HB4 : Hid (Below w.heap.size w w4) := HA.out.below.trans (hb4.mono HA.out.below.size)
  have HE4 := lohid hE
  have HT4 := lohid hT
  have hsr : N ≤ wr.heap.size := HA.out.size
  have hs4 : wr.heap.size ≤ w4.heap.size := hb4.size
  have hoff : ∀ q, wr.heap.size ≤ q → ¬ (foot b gd V1 q ∨ q = lb) := fun q hq hf => by
    rcases hf with hf | hf
    · have := HA.out.at_.disk.lt hf
      omega
    · have := HA.out.at_.lt
      omega
  have HOFF := lohid hoff
  clear hE hT hb4 BL PLz hx hoff
  have FT := lohid (law_fits HL4.out HA.out.ok HA.out.n hn8 (by omega) k2 (by omega) HA.out.down)
  rw [hcb] at FT
  go_wp2_with fail
  refine FT.out.mono ?_
  rintro e w5 ⟨rfl, hb5⟩
  have HL5 := lohid (HL4.out.on hb5)
  have HF5 := lohid (HF4.out.on hb5)
  have HB5 : Hid (Below w.heap.size w w5) := HB4.out.trans (hb5.mono HB4.out.size)
  have HE5 := lohid (HE4.out.on hb5)
  have HT5 := lohid (HT4.out.on hb5)
  have hs5 : wr.heap.size ≤ w5.heap.size := Nat.le_trans hs4 hb5.size
  clear hb5 FT HL4 HF4 HB4 HE4 HT4 hs4
  go_wp2_with fail
  refine (law_full HL5.out i r v k2 (by omega) ad bad cap bcap HT5.out.txts hcb).mono ?_
  rintro e w6 ⟨rfl, hb6⟩
  have HA6 : Hid (AppAt n lb b gd N (i + 1) w w6 S V1 L v1 (.slice fad1 L.free.length fcap1)) :=
    ⟨HA.out.ok, HL5.out.on hb6, HF5.out.on hb6, HA.out.n, HA.out.left, HA.out.down, Nat.le_trans HA.out.writes (Nat.mul_le_mul_right _ (by omega)), HA.out.waits, by have := HA.out.seq; omega, HA.out.hN, by have := hb6.size; omega, HB5.out.trans (hb6.mono HB5.out.size), HA.out.foots⟩
  clear hb6 HL5 HF5 HB5 HE5 HT5 hs5 hsr HA HOFF
  go_wp2_with fail
  have q6 := HA6.out.ok.num
  have q7 := HA6.out.ok.life
  have q8 := HA6.out.ok.few
  have q9 := HA6.out.ok.seq1
  refine (place_t lb b _ 32 L v1 _ _ HA6.out.at_.row).mono ?_
  rintro e wa ⟨rfl, hba⟩
  have HAa := lohid (HA6.out.on hba)
  clear hba HA6
  go_wp2_with fail
  generalize hWb : World.alloc wa _ = wb
  have hbw : Below wa.heap.size wa wb := by rw [← hWb]; exact (Below.refl _ _).alloc (Nat.le_refl _) _
  have HAb := lohid (HAa.out.on hbw)
  clear hWb HAa hbw
  have FR := free_t14 lb b _ 32 L v1 _ wb HAb.out.at_.row HAb.out.at_.free.nums (by have := HAb.out.ok.few; omega)
  refine FR.mono ?_
  rintro e wc ⟨vc, rfl, hOc, hbc⟩
  obtain ⟨adc, capc, rfl⟩ := hOc.slice
  have HIc := lohid hOc.ints
  have HAc := lohid (HAb.out.on hbc)
  have hnc := HAc.out.fr.nums
  have HNC := lohid hnc
  clear hOc hbc HAb FR hnc
  go_wp2_with fail
  refine (sameInts_yes (.slice adc L.free.length capc) (.slice fad1 L.free.length fcap1) L.free wc (by omega) HIc.out HNC.out).mono ?_
  rintro e wd ⟨rfl, hbd⟩
  have HAd := lohid (HAc.out.on hbd)
  clear hbd HAc HIc HNC q6 q7
  have HNX : Hid (AppAt n lb b gd N (i + 1) w wd S V1 L v1 (.slice fad1 L.free.length fcap1)) := by exact HAd.out
  rcases Nat.lt_or_ge i give.length with hig | hig
  · obtain ⟨gb, go, hgd, hgb, hgx⟩ := HGC.out (by omega)
    subst hgd
    have hgc := hgx i hig
    rw [← HAd.out.below.cell hgb] at hgc
    have PLg := lohid (fun w => gplace_t give[i] 3 w (by decide) (by decide))
    obtain ⟨t, ht, ht3⟩ : ∃ t : Nat, give[i] % 3 = (t : Int) ∧ t < 3 := ⟨(give[i] % 3).toNat, by omega, by omega⟩
    rw [ht] at PLg
    clear ht hgx
    generalize give[i] = y at *
    have higi : (i : Int) < (give.length : Int) := by omega
    go_wp2_with fail
    refine (PLg.out _).mono ?_
    rintro e wp ⟨rfl, rfl⟩
    clear PLg hgc
    rcases Nat.eq_zero_or_pos t with rfl | ht0
    · have e0 : ((0 : Nat) : Int) = 0 := rfl
      rw [e0]
      clear e0 HNX
      go_wp2_with fail
      have GV := give_t lb b _ 32 L v1 _ (500 + (i : Int)) _ wd HAd.out.at_.row HAd.out.at_.free (fun q hq => hq.2.2) (by have := HAd.out.ok.few; omega)
      refine GV.mono ?_
      rintro e we ⟨ve, rfl, hre, hIe, hKe⟩
      have hlbN2 := HAd.out.hN
      have hFe := HAd.out.fr.keep (Q := fun _ => True) hKe (fun q hq hf => by
        rcases hf with hf | hf
        · have := hf.2.2
          have := hq.1
          omega
        · have := hq.1
          omega) (fun _ _ _ => trivial)
      have hbb := HAd.out.foots b (.inl rfl)
      have hBe : Below w.heap.size w we := HAd.out.below.trans (hKe.below HAd.out.below.size (fun q hq => by
        rcases hq with hq | hq
        · have := hq.2.1
          omega
        · omega))
      have HFe := lohid hFe.nums
      have HBe := lohid hBe
      have HRe := lohid hre
      have HIe := lohid hIe
      clear hre hIe hKe hFe hbb hBe HAd hlbN2 GV
      have hle1 : (L.free ++ [500 + (i : Int)]).length = L.free.length + 1 := by rw [List.length_append]; rfl
      have HLE := lohid hle1
      clear hle1
      go_wp2_with (first
        | (refine wpList_append_ints rfl _ _ rfl we.heap.size _ [] rfl (IOwn.nil _ _) _ L.free rfl HFe.out ?c5 (Nat.le_refl _) ?_)
        | fail)
      case c5 => simp; omega
      intro vf wf hOf hbf hlef
      have HOf := lohid hOf
      have HBf := lohid hbf
      clear hOf hbf HFe
      go_wp2_with (first
        | (refine wpList_append_one rfl _ _ rfl we.heap.size _ L.free rfl (HOf.out.on ((Below.refl _ _).alloc (Nat.le_refl _) _)) wf.heap.size 1 [500 + (i : Int)] rfl 3 (0, 0) (heap_alloc_new _ _) (by simp) ?c6 ?c7 ?_)
        | fail)
      case c6 => simp; omega
      case c7 => simp; omega
      intro vg wg hOg hbg hleg
      have HOg := lohid hOg.ints
      obtain ⟨adg, capg, rfl⟩ := hOg.slice
      rw [HLE.out] at HOg ⊢
      have HBg : Hid (Below we.heap.size we wg) := (HBf.out.alloc hlef (.cells (icells [500 + (i : Int)]).toArray 3)).trans hbg
      clear hOg hbg HOf HBf
      go_wp2_with fail
      refine (free_t14 lb b _ 32 { L with free := L.free ++ [500 + (i : Int)] } ve _ wg (row_on HRe.out HBg.out) (HIe.out.on HBg.out) (by show (L.free ++ [500 + (i : Int)]).length ≤ _; rw [List.length_append]; show L.free.length + 1 ≤ _; omega)).mono ?_
      rintro e wh ⟨vh, rfl, hOh, hbh⟩
      obtain ⟨adh, caph, rfl⟩ := hOh.slice
      have HOh := lohid hOh.ints
      rw [HLE.out] at HOh ⊢
      have HOg2 := lohid (HOg.out.on hbh)
      have HBh : Hid (Below w.heap.size w wh) := HBe.out.trans ((HBg.out.trans (hbh.mono HBg.out.size)).mono HBe.out.size)
      clear hOh hbh HOg HBg HBe HRe HIe
      go_wp2_with fail
      refine (sameInts_yes (.slice adh (L.free.length + 1) caph) (.slice adg (L.free.length + 1) capg) (L.free ++ [500 + (i : Int)]) wh (by rw [List.length_append]; show L.free.length + 1 ≤ _; omega) HOh.out HOg2.out).mono ?_
      rintro e wi ⟨rfl, hbi⟩
      have HBi : Hid (Below w.heap.size w wi) := HBh.out.trans (hbi.mono HBh.out.size)
      clear hbi HBh HOh HOg2
      go_wp2_with fail
      refine (AW.out _).mono ?_
      rintro e wj ⟨rfl, hbj⟩
      have HBj : Hid (Below w.heap.size w wj) := HBi.out.trans (hbj.mono HBi.out.size)
      clear hbj HBi
      go_wp2_with fail
      go_ret
      exact ⟨rfl, HBj.out⟩
    · have hnt : ((t : Int) == 0) = false := by simp; omega
      clear HAd
      go_wp2_with fail
      exact ⟨⟨i + 1, hil, by go_num, S, V1, L, v1, _, _, rfl, rfl, rfl, rfl, rfl, HNX⟩, by rw [← hm0.out]; simp [intOf]; omega⟩
  · have higi : ¬ (i : Int) < (give.length : Int) := by omega
    clear HAd
    go_wp2_with fail
    exact ⟨⟨i + 1, hil, by go_num, S, V1, L, v1, _, _, rfl, rfl, rfl, rfl, rfl, HNX⟩, by rw [← hm0.out]; simp [intOf]; omega⟩
end Go.Proofs.Ytgbgklnlmgpmjaa
