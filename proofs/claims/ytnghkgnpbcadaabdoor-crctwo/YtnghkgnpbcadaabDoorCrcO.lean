import Derived.Test.YtnghkgnpbcadaabDoorCrcT
import Derived.Test.YtnghkgnpbcadaabDoorCrcB
namespace Go.Proofs.YtnghkgnpbcadaabDoor
set_option maxRecDepth 100000

/-- None of the n next registers is 1, and the last one is e. -/
def chkF (e : Nat) : Nat → Nat → Bool
  | 0, r => Nat.beq r e
  | n + 1, r => and (not (Nat.beq (stpF r) 1)) (chkF e n (stpF r))
theorem chkF_spec (e : Nat) : ∀ (n r : Nat), chkF e n r = true → stps n r = e ∧ ∀ d, 0 < d → d ≤ n → stps d r ≠ 1
  | 0, r, h => ⟨by rw [chkF] at h; rw [stps]; exact Nat.eq_of_beq_eq_true h, fun d h1 h2 => absurd h1 (by omega)⟩
  | n + 1, r, h => by
    have h' : (and (not (Nat.beq (stpF r) 1)) (chkF e n (stpF r))) = true := by rw [chkF] at h; exact h
    rw [Bool.and_eq_true, stpF_eq] at h'
    obtain ⟨e1, e2⟩ := chkF_spec e n (stp r) h'.2
    refine ⟨by rw [stps]; exact e1, fun d h1 h2 => ?_⟩
    obtain ⟨d', rfl⟩ : ∃ d', d = d' + 1 := ⟨d - 1, by omega⟩
    rw [stps]
    by_cases h0 : d' = 0
    · subst h0
      intro e3
      rw [stps] at e3
      rw [e3] at h'
      exact absurd h'.1 (by decide)
    · exact e2 d' (by omega) (by omega)
/-- Up to n steps behind 1 no 1 comes again; then the register is a. -/
def Once (n a : Nat) : Prop := stps n 1 = a ∧ ∀ d, 0 < d → d ≤ n → stps d 1 ≠ 1
theorem Once.next {n m a b : Nat} (h : Once n a) (hm : m = n + 4096) (c : chkF b 4096 a = true) : Once m b := by
  subst hm
  obtain ⟨e1, e2⟩ := chkF_spec b 4096 a c
  refine ⟨by rw [stps_add, h.1, e1], fun d h1 h2 => ?_⟩
  by_cases hd : d ≤ n
  · exact h.2 d h1 hd
  · rw [show d = n + (d - n) by omega, stps_add, h.1]
    exact e2 (d - n) (by omega) (by omega)
theorem once0 : Once 0 1 := ⟨rfl, fun d h1 h2 => absurd h1 (by omega)⟩
theorem once1 : Once 4096 275962664 := once0.next rfl (by decide +kernel)
theorem once2 : Once 8192 4170314095 := once1.next rfl (by decide +kernel)
theorem once3 : Once 12288 3389472127 := once2.next rfl (by decide +kernel)
theorem once4 : Once 16384 2293676643 := once3.next rfl (by decide +kernel)
theorem once5 : Once 20480 60843553 := once4.next rfl (by decide +kernel)
theorem once6 : Once 24576 3050640822 := once5.next rfl (by decide +kernel)
theorem once7 : Once 28672 2958984256 := once6.next rfl (by decide +kernel)
theorem once8 : Once 32768 1524148524 := once7.next rfl (by decide +kernel)
theorem once9 : Once 36864 27634868 := once8.next rfl (by decide +kernel)
theorem once10 : Once 40960 2570279155 := once9.next rfl (by decide +kernel)
theorem once11 : Once 45056 2360343898 := once10.next rfl (by decide +kernel)
theorem once12 : Once 49152 4116301252 := once11.next rfl (by decide +kernel)
theorem once13 : Once 53248 2477089033 := once12.next rfl (by decide +kernel)
theorem once14 : Once 57344 1296464564 := once13.next rfl (by decide +kernel)
theorem once15 : Once 61440 1579823288 := once14.next rfl (by decide +kernel)
theorem once16 : Once 65536 3043423970 := once15.next rfl (by decide +kernel)
theorem once17 : Once 69632 2976139167 := once16.next rfl (by decide +kernel)
theorem once18 : Once 73728 3327901884 := once17.next rfl (by decide +kernel)
theorem once19 : Once 77824 1404161178 := once18.next rfl (by decide +kernel)
theorem once20 : Once 81920 772296808 := once19.next rfl (by decide +kernel)
theorem once21 : Once 86016 842349352 := once20.next rfl (by decide +kernel)
theorem once22 : Once 90112 3169209848 := once21.next rfl (by decide +kernel)
theorem once23 : Once 94208 2594898115 := once22.next rfl (by decide +kernel)
theorem once24 : Once 98304 2356483518 := once23.next rfl (by decide +kernel)
theorem once25 : Once 102400 2585549237 := once24.next rfl (by decide +kernel)
theorem once26 : Once 106496 1728850275 := once25.next rfl (by decide +kernel)
theorem once27 : Once 110592 765447030 := once26.next rfl (by decide +kernel)
theorem once28 : Once 114688 3885858416 := once27.next rfl (by decide +kernel)
theorem once29 : Once 118784 629267589 := once28.next rfl (by decide +kernel)
theorem once30 : Once 122880 837226663 := once29.next rfl (by decide +kernel)
theorem once31 : Once 126976 2489407412 := once30.next rfl (by decide +kernel)
theorem once32 : Once 131072 2643536319 := once31.next rfl (by decide +kernel)
theorem once33 : Once 135168 2946146612 := once32.next rfl (by decide +kernel)
theorem once34 : Once 139264 992493436 := once33.next rfl (by decide +kernel)
theorem once35 : Once 143360 3051495988 := once34.next rfl (by decide +kernel)
theorem once36 : Once 147456 4013877958 := once35.next rfl (by decide +kernel)
theorem once37 : Once 151552 3460300546 := once36.next rfl (by decide +kernel)
theorem once38 : Once 155648 3038654909 := once37.next rfl (by decide +kernel)
theorem once39 : Once 159744 2220938534 := once38.next rfl (by decide +kernel)
theorem once40 : Once 163840 3871805027 := once39.next rfl (by decide +kernel)
theorem once41 : Once 167936 2807693709 := once40.next rfl (by decide +kernel)
theorem once42 : Once 172032 2658451668 := once41.next rfl (by decide +kernel)
theorem once43 : Once 176128 4154412996 := once42.next rfl (by decide +kernel)
theorem once44 : Once 180224 611383798 := once43.next rfl (by decide +kernel)
theorem once45 : Once 184320 2620672767 := once44.next rfl (by decide +kernel)
theorem once46 : Once 188416 980920432 := once45.next rfl (by decide +kernel)
theorem once47 : Once 192512 2571727658 := once46.next rfl (by decide +kernel)
theorem once48 : Once 196608 1462738537 := once47.next rfl (by decide +kernel)
theorem once49 : Once 200704 1762995540 := once48.next rfl (by decide +kernel)
theorem once50 : Once 204800 3447790229 := once49.next rfl (by decide +kernel)
theorem once51 : Once 208896 2201903798 := once50.next rfl (by decide +kernel)
theorem once52 : Once 212992 4161109183 := once51.next rfl (by decide +kernel)
theorem once53 : Once 217088 159858965 := once52.next rfl (by decide +kernel)
theorem once54 : Once 221184 2812009880 := once53.next rfl (by decide +kernel)
theorem once55 : Once 225280 2300581980 := once54.next rfl (by decide +kernel)
theorem once56 : Once 229376 1392869812 := once55.next rfl (by decide +kernel)
theorem once57 : Once 233472 2281916033 := once56.next rfl (by decide +kernel)
theorem once58 : Once 237568 1349414417 := once57.next rfl (by decide +kernel)
theorem once59 : Once 241664 3446941769 := once58.next rfl (by decide +kernel)
theorem once60 : Once 245760 2176926878 := once59.next rfl (by decide +kernel)
theorem once61 : Once 249856 2657519224 := once60.next rfl (by decide +kernel)
theorem once62 : Once 253952 2330289679 := once61.next rfl (by decide +kernel)
theorem once63 : Once 258048 3157251309 := once62.next rfl (by decide +kernel)
theorem once64 : Once 262144 786709036 := once63.next rfl (by decide +kernel)
theorem once65 : Once 266240 712187157 := once64.next rfl (by decide +kernel)
theorem once66 : Once 270336 2094092299 := once65.next rfl (by decide +kernel)
theorem once67 : Once 274432 1703951966 := once66.next rfl (by decide +kernel)
theorem once68 : Once 278528 495355006 := once67.next rfl (by decide +kernel)
theorem once69 : Once 282624 541413617 := once68.next rfl (by decide +kernel)
theorem once70 : Once 286720 2104626077 := once69.next rfl (by decide +kernel)
theorem once71 : Once 290816 626395113 := once70.next rfl (by decide +kernel)
theorem once72 : Once 294912 108000945 := once71.next rfl (by decide +kernel)
theorem once73 : Once 299008 1529615917 := once72.next rfl (by decide +kernel)
theorem once74 : Once 303104 1431811865 := once73.next rfl (by decide +kernel)
theorem once75 : Once 307200 1403902170 := once74.next rfl (by decide +kernel)
theorem once76 : Once 311296 1602147179 := once75.next rfl (by decide +kernel)
theorem once77 : Once 315392 4212948758 := once76.next rfl (by decide +kernel)
theorem once78 : Once 319488 781405320 := once77.next rfl (by decide +kernel)
theorem once79 : Once 323584 1574863535 := once78.next rfl (by decide +kernel)
theorem once80 : Once 327680 3880816237 := once79.next rfl (by decide +kernel)
theorem once81 : Once 331776 3666137335 := once80.next rfl (by decide +kernel)
theorem once82 : Once 335872 2881629917 := once81.next rfl (by decide +kernel)
theorem once83 : Once 339968 232281162 := once82.next rfl (by decide +kernel)
theorem once84 : Once 344064 3966460971 := once83.next rfl (by decide +kernel)
theorem once85 : Once 348160 688276636 := once84.next rfl (by decide +kernel)
theorem once86 : Once 352256 2988555488 := once85.next rfl (by decide +kernel)
theorem once87 : Once 356352 825661084 := once86.next rfl (by decide +kernel)
theorem once88 : Once 360448 3693312355 := once87.next rfl (by decide +kernel)
theorem once89 : Once 364544 2971952099 := once88.next rfl (by decide +kernel)
theorem once90 : Once 368640 3102388096 := once89.next rfl (by decide +kernel)
theorem once91 : Once 372736 718623954 := once90.next rfl (by decide +kernel)
theorem once92 : Once 376832 4241348137 := once91.next rfl (by decide +kernel)
theorem once93 : Once 380928 2420216725 := once92.next rfl (by decide +kernel)
theorem once94 : Once 385024 1670512430 := once93.next rfl (by decide +kernel)
theorem once95 : Once 389120 2994808158 := once94.next rfl (by decide +kernel)
theorem once96 : Once 393216 3818251740 := once95.next rfl (by decide +kernel)
theorem once97 : Once 397312 3654145997 := once96.next rfl (by decide +kernel)
theorem once98 : Once 401408 3798025706 := once97.next rfl (by decide +kernel)
theorem once99 : Once 405504 1637273287 := once98.next rfl (by decide +kernel)
theorem once100 : Once 409600 2566460450 := once99.next rfl (by decide +kernel)
theorem once101 : Once 413696 4293750464 := once100.next rfl (by decide +kernel)
theorem once102 : Once 417792 638634591 := once101.next rfl (by decide +kernel)
theorem once103 : Once 421888 1614718313 := once102.next rfl (by decide +kernel)
theorem once104 : Once 425984 3017478015 := once103.next rfl (by decide +kernel)
theorem once105 : Once 430080 4238216625 := once104.next rfl (by decide +kernel)
theorem once106 : Once 434176 914921793 := once105.next rfl (by decide +kernel)
theorem once107 : Once 438272 2950612007 := once106.next rfl (by decide +kernel)
theorem once108 : Once 442368 1351109194 := once107.next rfl (by decide +kernel)
theorem once109 : Once 446464 1767575465 := once108.next rfl (by decide +kernel)
theorem once110 : Once 450560 3415473426 := once109.next rfl (by decide +kernel)
theorem once111 : Once 454656 3059208937 := once110.next rfl (by decide +kernel)
theorem once112 : Once 458752 1135575519 := once111.next rfl (by decide +kernel)
theorem once113 : Once 462848 1762779150 := once112.next rfl (by decide +kernel)
theorem once114 : Once 466944 840519519 := once113.next rfl (by decide +kernel)
theorem once115 : Once 471040 873823275 := once114.next rfl (by decide +kernel)
theorem once116 : Once 475136 887787478 := once115.next rfl (by decide +kernel)
theorem once117 : Once 479232 4050043444 := once116.next rfl (by decide +kernel)
theorem once118 : Once 483328 3129916782 := once117.next rfl (by decide +kernel)
theorem once119 : Once 487424 2867085227 := once118.next rfl (by decide +kernel)
theorem once120 : Once 491520 259899626 := once119.next rfl (by decide +kernel)
theorem once121 : Once 495616 3512881298 := once120.next rfl (by decide +kernel)
theorem once122 : Once 499712 3986072279 := once121.next rfl (by decide +kernel)
theorem once123 : Once 503808 684323445 := once122.next rfl (by decide +kernel)
theorem once124 : Once 507904 3587569279 := once123.next rfl (by decide +kernel)
theorem once125 : Once 512000 4057122168 := once124.next rfl (by decide +kernel)
theorem once126 : Once 516096 270597003 := once125.next rfl (by decide +kernel)
theorem once127 : Once 520192 2123173738 := once126.next rfl (by decide +kernel)
theorem once128 : Once 524288 457511406 := once127.next rfl (by decide +kernel)
theorem order {d : Nat} (h0 : 0 < d) (h : d ≤ 524288) : stps d 1 ≠ 1 := once128.2 d h0 h

theorem stps_two {L u v : Nat} (hu : u < L) (hv : v < L) (hL : L ≤ 524288) : ∃ M q, q < 4294967296 ∧ stps (L - u) 1 ^^^ stps (L - v) 1 = stps M q ∧ (q = 0 ↔ u = v) := by
  rcases Nat.lt_trichotomy u v with h | h | h
  · refine ⟨L - v, stps (v - u) 1 ^^^ 1, xor_lt (stps_lt _ (by decide)) (by decide), ?_, ?_⟩
    · rw [stps_xor, ← stps_add, show v - u + (L - v) = L - u by omega]
    · exact ⟨fun e => absurd (xor_eq_zero e) (order (by omega) (by omega)), fun e => by omega⟩
  · refine ⟨0, 0, by decide, ?_, ?_⟩
    · rw [h, Nat.xor_self]; rfl
    · exact ⟨fun _ => h, fun _ => rfl⟩
  · refine ⟨L - u, stps (u - v) 1 ^^^ 1, xor_lt (stps_lt _ (by decide)) (by decide), ?_, ?_⟩
    · rw [stps_xor, ← stps_add, show u - v + (L - u) = L - v by omega, Nat.xor_comm]
    · exact ⟨fun e => absurd (xor_eq_zero e) (order (by omega) (by omega)), fun e => by omega⟩

theorem part_one {M : Nat} (h : 0 < M) : part 1 M 32 = 1 := by
  unfold part
  have : 2 ^ 1 ≤ 2 ^ (min 32 M) := Nat.pow_le_pow_right (by decide) (by omega)
  exact Nat.mod_eq_of_lt (by omega)
theorem Turned.two {zs ys xs : List Int} {L u v : Nat} (h1 : Turned zs ys (L - u) (part 1 (L - u) 32)) (h2 : Turned ys xs (L - v) (part 1 (L - v) 32)) (hu : u < L) (hv : v < L) (hL : L ≤ 524288) :
    ∃ M q, q < 4294967296 ∧ Turned zs xs M q ∧ (q = 0 ↔ u = v) := by
  obtain ⟨M, q, hq, e, hz⟩ := stps_two hu hv hL
  refine ⟨M, q, hq, ⟨h2.len.trans h1.len, h2.bts, fun r => ?_⟩, hz⟩
  rw [h2.run, h1.run, part_one (by omega), part_one (by omega), ← e, Nat.xor_assoc]
end Go.Proofs.YtnghkgnpbcadaabDoor
