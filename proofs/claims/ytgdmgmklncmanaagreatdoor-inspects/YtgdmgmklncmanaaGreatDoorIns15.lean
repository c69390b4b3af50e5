/- Of Ins: TeaHash, TeaW1. -/
import Derived.Test.YtgdmgmklncmanaaGreatDoorIns10
import Derived.KernelRfl
import Derived.Test.YtgdmgmklncmanaaGreatDoorIns14
/- The digest of the document's example, reckoned step by step. Written by tools/gen_tea.py. -/
namespace Go.Proofs.YtgdmgmklncmanaaGreatDoor

def kList : List Int := [1116352408, 1899447441, 3049323471, 3921009573, 961987163, 1508970993, 2453635748, 2870763221, 3624381080, 310598401, 607225278, 1426881987, 1925078388, 2162078206, 2614888103, 3248222580, 3835390401, 4022224774, 264347078, 604807628, 770255983, 1249150122, 1555081692, 1996064986, 2554220882, 2821834349, 2952996808, 3210313671, 3336571891, 3584528711, 113926993, 338241895, 666307205, 773529912, 1294757372, 1396182291, 1695183700, 1986661051, 2177026350, 2456956037, 2730485921, 2820302411, 3259730800, 3345764771, 3516065817, 3600352804, 4094571909, 275423344, 430227734, 506948616, 659060556, 883997877, 958139571, 1322822218, 1537002063, 1747873779, 1955562222, 2024104815, 2227730452, 2361852424, 2428436474, 2756734187, 3204031479, 3329325298]
/-- The numbers of the rounds. -/
def kTab (i : Nat) : Int := kList.getD i 0
def green : List UInt8 := [103, 114, 101, 101, 110]
def bgr : Nat → Int := blk green 0
theorem wf_at {b : Nat → Int} (m : Nat) {a0 a1 a9 a14 v : Int} (h0 : wf b m = a0) (h1 : wf b (m + 1) = a1) (h9 : wf b (m + 9) = a9) (h14 : wf b (m + 14) = a14) (hv : (sS1 a14 + a9 + sS0 a1 + a0) % 4294967296 = v) : wf b (m + 16) = v := by
  rw [wf_high (by omega), show m + 16 - 2 = m + 14 from by omega, show m + 16 - 7 = m + 9 from by omega, show m + 16 - 15 = m + 1 from by omega, show m + 16 - 16 = m from by omega, h0, h1, h9, h14, hv]
theorem rounds_at {r s s' : R8} {F K : Nat → Int} {n : Nat} {k x : Int} (h : rounds r F K n = s) (hk : K n = k) (hx : F n = x) (hs : s.next k x = s') : rounds r F K (n + 1) = s' := by
  rw [rounds, h, hk, hx, hs]
theorem word_at {b : Nat → Int} {k : Nat} {v : Int} (h : k < 16) (hv : word4 b k = v) : wf b k = v := (wf_low h).trans hv
theorem wg0 : wf bgr 0 = 1735550309 := word_at (by decide) (by kernel_rfl)
theorem wg1 : wf bgr 1 = 1853882368 := word_at (by decide) (by kernel_rfl)
theorem wg2 : wf bgr 2 = 0 := word_at (by decide) (by kernel_rfl)
theorem wg3 : wf bgr 3 = 0 := word_at (by decide) (by kernel_rfl)
theorem wg4 : wf bgr 4 = 0 := word_at (by decide) (by kernel_rfl)
theorem wg5 : wf bgr 5 = 0 := word_at (by decide) (by kernel_rfl)
theorem wg6 : wf bgr 6 = 0 := word_at (by decide) (by kernel_rfl)
theorem wg7 : wf bgr 7 = 0 := word_at (by decide) (by kernel_rfl)
theorem wg8 : wf bgr 8 = 0 := word_at (by decide) (by kernel_rfl)
theorem wg9 : wf bgr 9 = 0 := word_at (by decide) (by kernel_rfl)
theorem wg10 : wf bgr 10 = 0 := word_at (by decide) (by kernel_rfl)
theorem wg11 : wf bgr 11 = 0 := word_at (by decide) (by kernel_rfl)
theorem wg12 : wf bgr 12 = 0 := word_at (by decide) (by kernel_rfl)
theorem wg13 : wf bgr 13 = 0 := word_at (by decide) (by kernel_rfl)
theorem wg14 : wf bgr 14 = 0 := word_at (by decide) (by kernel_rfl)
theorem wg15 : wf bgr 15 = 40 := word_at (by decide) (by kernel_rfl)
theorem wg16 : wf bgr 16 = 1954513157 := wf_at 0 wg0 wg1 wg9 wg14 (by kernel_rfl)
theorem wg17 : wf bgr 17 = 1854996480 := wf_at 1 wg1 wg2 wg10 wg15 (by kernel_rfl)
theorem wg18 : wf bgr 18 = 817826640 := wf_at 2 wg2 wg3 wg11 wg16 (by kernel_rfl)
theorem wg19 : wf bgr 19 = 2686164698 := wf_at 3 wg3 wg4 wg12 wg17 (by kernel_rfl)
theorem wg20 : wf bgr 20 = 1691234698 := wf_at 4 wg4 wg5 wg13 wg18 (by kernel_rfl)
theorem wg21 : wf bgr 21 = 3164472041 := wf_at 5 wg5 wg6 wg14 wg19 (by kernel_rfl)
theorem wg22 : wf bgr 22 = 3740093850 := wf_at 6 wg6 wg7 wg15 wg20 (by kernel_rfl)
theorem wg23 : wf bgr 23 = 897994593 := wf_at 7 wg7 wg8 wg16 wg21 (by kernel_rfl)
theorem wg24 : wf bgr 24 = 2111475704 := wf_at 8 wg8 wg9 wg17 wg22 (by kernel_rfl)
theorem wg25 : wf bgr 25 = 521201968 := wf_at 9 wg9 wg10 wg18 wg23 (by kernel_rfl)
theorem wg26 : wf bgr 26 = 3057116879 := wf_at 10 wg10 wg11 wg19 wg24 (by kernel_rfl)
theorem wg27 : wf bgr 27 = 3465017818 := wf_at 11 wg11 wg12 wg20 wg25 (by kernel_rfl)
theorem wg28 : wf bgr 28 = 3425805069 := wf_at 12 wg12 wg13 wg21 wg26 (by kernel_rfl)
theorem wg29 : wf bgr 29 = 3805474055 := wf_at 13 wg13 wg14 wg22 wg27 (by kernel_rfl)
theorem wg30 : wf bgr 30 = 1801757532 := wf_at 14 wg14 wg15 wg23 wg28 (by kernel_rfl)
theorem wg31 : wf bgr 31 = 2367462373 := wf_at 15 wg15 wg16 wg24 wg29 (by kernel_rfl)
theorem wg32 : wf bgr 32 = 2793334223 := wf_at 16 wg16 wg17 wg25 wg30 (by kernel_rfl)
theorem wg33 : wf bgr 33 = 1746446893 := wf_at 17 wg17 wg18 wg26 wg31 (by kernel_rfl)
theorem wg34 : wf bgr 34 = 4105480787 := wf_at 18 wg18 wg19 wg27 wg32 (by kernel_rfl)
theorem wg35 : wf bgr 35 = 1086923885 := wf_at 19 wg19 wg20 wg28 wg33 (by kernel_rfl)
theorem wg36 : wf bgr 36 = 1280334838 := wf_at 20 wg20 wg21 wg29 wg34 (by kernel_rfl)
theorem wg37 : wf bgr 37 = 1538565388 := wf_at 21 wg21 wg22 wg30 wg35 (by kernel_rfl)
theorem wg38 : wf bgr 38 = 3919867206 := wf_at 22 wg22 wg23 wg31 wg36 (by kernel_rfl)
theorem wg39 : wf bgr 39 = 4277501003 := wf_at 23 wg23 wg24 wg32 wg37 (by kernel_rfl)
theorem wg40 : wf bgr 40 = 4206179922 := wf_at 24 wg24 wg25 wg33 wg38 (by kernel_rfl)
theorem wg41 : wf bgr 41 = 2507296791 := wf_at 25 wg25 wg26 wg34 wg39 (by kernel_rfl)
theorem wg42 : wf bgr 42 = 2266619366 := wf_at 26 wg26 wg27 wg35 wg40 (by kernel_rfl)
theorem wg43 : wf bgr 43 = 3890339454 := wf_at 27 wg27 wg28 wg36 wg41 (by kernel_rfl)
theorem wg44 : wf bgr 44 = 2788335103 := wf_at 28 wg28 wg29 wg37 wg42 (by kernel_rfl)
theorem wg45 : wf bgr 45 = 1051589052 := wf_at 29 wg29 wg30 wg38 wg43 (by kernel_rfl)
theorem wg46 : wf bgr 46 = 2214892587 := wf_at 30 wg30 wg31 wg39 wg44 (by kernel_rfl)
theorem wg47 : wf bgr 47 = 4272475937 := wf_at 31 wg31 wg32 wg40 wg45 (by kernel_rfl)
theorem wg48 : wf bgr 48 = 2449172388 := wf_at 32 wg32 wg33 wg41 wg46 (by kernel_rfl)
theorem wg49 : wf bgr 49 = 23655416 := wf_at 33 wg33 wg34 wg42 wg47 (by kernel_rfl)
theorem wg50 : wf bgr 50 = 1461523427 := wf_at 34 wg34 wg35 wg43 wg48 (by kernel_rfl)
theorem wg51 : wf bgr 51 = 1114527214 := wf_at 35 wg35 wg36 wg44 wg49 (by kernel_rfl)
theorem wg52 : wf bgr 52 = 4044965601 := wf_at 36 wg36 wg37 wg45 wg50 (by kernel_rfl)
theorem wg53 : wf bgr 53 = 1271540545 := wf_at 37 wg37 wg38 wg46 wg51 (by kernel_rfl)
theorem wg54 : wf bgr 54 = 1259305009 := wf_at 38 wg38 wg39 wg47 wg52 (by kernel_rfl)
theorem wg55 : wf bgr 55 = 3640841232 := wf_at 39 wg39 wg40 wg48 wg53 (by kernel_rfl)
theorem wg56 : wf bgr 56 = 4172006784 := wf_at 40 wg40 wg41 wg49 wg54 (by kernel_rfl)
theorem wg57 : wf bgr 57 = 3353363663 := wf_at 41 wg41 wg42 wg50 wg55 (by kernel_rfl)
theorem wg58 : wf bgr 58 = 4202872592 := wf_at 42 wg42 wg43 wg51 wg56 (by kernel_rfl)
theorem wg59 : wf bgr 59 = 1354819460 := wf_at 43 wg43 wg44 wg52 wg57 (by kernel_rfl)
theorem wg60 : wf bgr 60 = 4229527405 := wf_at 44 wg44 wg45 wg53 wg58 (by kernel_rfl)
theorem wg61 : wf bgr 61 = 1533443802 := wf_at 45 wg45 wg46 wg54 wg59 (by kernel_rfl)
theorem wg62 : wf bgr 62 = 1649141725 := wf_at 46 wg46 wg47 wg55 wg60 (by kernel_rfl)
theorem wg63 : wf bgr 63 = 1793790502 := wf_at 47 wg47 wg48 wg56 wg61 (by kernel_rfl)
theorem rg0 : rounds iv (wf bgr) kTab 0 = ⟨1779033703, 3144134277, 1013904242, 2773480762, 1359893119, 2600822924, 528734635, 1541459225⟩ := rfl
theorem rg1 : rounds iv (wf bgr) kTab 1 = ⟨1669000626, 1779033703, 3144134277, 1013904242, 3819527, 1359893119, 2600822924, 528734635⟩ := rounds_at rg0 (show kTab 0 = 1116352408 by kernel_rfl) wg0 (by kernel_rfl)
theorem rg2 : rounds iv (wf bgr) kTab 2 = ⟨645317777, 1669000626, 1779033703, 3144134277, 3632160806, 3819527, 1359893119, 2600822924⟩ := rounds_at rg1 (show kTab 1 = 1899447441 by kernel_rfl) wg1 (by kernel_rfl)
theorem rg3 : rounds iv (wf bgr) kTab 3 = ⟨185419416, 645317777, 1669000626, 1779033703, 2918402655, 3632160806, 3819527, 1359893119⟩ := rounds_at rg2 (show kTab 2 = 3049323471 by kernel_rfl) wg2 (by kernel_rfl)
theorem rg4 : rounds iv (wf bgr) kTab 4 = ⟨3065903408, 185419416, 645317777, 1669000626, 4197429543, 2918402655, 3632160806, 3819527⟩ := rounds_at rg3 (show kTab 3 = 3921009573 by kernel_rfl) wg3 (by kernel_rfl)
theorem rg5 : rounds iv (wf bgr) kTab 5 = ⟨3370090817, 3065903408, 185419416, 645317777, 4065239274, 4197429543, 2918402655, 3632160806⟩ := rounds_at rg4 (show kTab 4 = 961987163 by kernel_rfl) wg4 (by kernel_rfl)
theorem rg6 : rounds iv (wf bgr) kTab 6 = ⟨1422968091, 3370090817, 3065903408, 185419416, 3933021965, 4065239274, 4197429543, 2918402655⟩ := rounds_at rg5 (show kTab 5 = 1508970993 by kernel_rfl) wg5 (by kernel_rfl)
theorem rg7 : rounds iv (wf bgr) kTab 7 = ⟨2799810718, 1422968091, 3370090817, 3065903408, 504775570, 3933021965, 4065239274, 4197429543⟩ := rounds_at rg6 (show kTab 6 = 2453635748 by kernel_rfl) wg6 (by kernel_rfl)
theorem rg8 : rounds iv (wf bgr) kTab 8 = ⟨1899211513, 2799810718, 1422968091, 3370090817, 2003894109, 504775570, 3933021965, 4065239274⟩ := rounds_at rg7 (show kTab 7 = 2870763221 by kernel_rfl) wg7 (by kernel_rfl)
theorem rg9 : rounds iv (wf bgr) kTab 9 = ⟨3365814637, 1899211513, 2799810718, 1422968091, 1465881388, 2003894109, 504775570, 3933021965⟩ := rounds_at rg8 (show kTab 8 = 3624381080 by kernel_rfl) wg8 (by kernel_rfl)
theorem rg10 : rounds iv (wf bgr) kTab 10 = ⟨3093259721, 3365814637, 1899211513, 2799810718, 741351004, 1465881388, 2003894109, 504775570⟩ := rounds_at rg9 (show kTab 9 = 310598401 by kernel_rfl) wg9 (by kernel_rfl)
theorem rg11 : rounds iv (wf bgr) kTab 11 = ⟨1925170202, 3093259721, 3365814637, 1899211513, 3820281191, 741351004, 1465881388, 2003894109⟩ := rounds_at rg10 (show kTab 10 = 607225278 by kernel_rfl) wg10 (by kernel_rfl)
theorem rg12 : rounds iv (wf bgr) kTab 12 = ⟨639632390, 1925170202, 3093259721, 3365814637, 1531468932, 3820281191, 741351004, 1465881388⟩ := rounds_at rg11 (show kTab 11 = 1426881987 by kernel_rfl) wg11 (by kernel_rfl)
theorem rg13 : rounds iv (wf bgr) kTab 13 = ⟨3003041267, 639632390, 1925170202, 3093259721, 531929789, 1531468932, 3820281191, 741351004⟩ := rounds_at rg12 (show kTab 12 = 1925078388 by kernel_rfl) wg12 (by kernel_rfl)
theorem rg14 : rounds iv (wf bgr) kTab 14 = ⟨2358531305, 3003041267, 639632390, 1925170202, 3657371231, 531929789, 1531468932, 3820281191⟩ := rounds_at rg13 (show kTab 13 = 2162078206 by kernel_rfl) wg13 (by kernel_rfl)
theorem rg15 : rounds iv (wf bgr) kTab 15 = ⟨575686508, 2358531305, 3003041267, 639632390, 1495330553, 3657371231, 531929789, 1531468932⟩ := rounds_at rg14 (show kTab 14 = 2614888103 by kernel_rfl) wg14 (by kernel_rfl)
theorem rg16 : rounds iv (wf bgr) kTab 16 = ⟨1015955776, 575686508, 2358531305, 3003041267, 1290881933, 1495330553, 3657371231, 531929789⟩ := rounds_at rg15 (show kTab 15 = 3248222580 by kernel_rfl) wg15 (by kernel_rfl)
theorem rg17 : rounds iv (wf bgr) kTab 17 = ⟨4143524919, 1015955776, 575686508, 2358531305, 1094465522, 1290881933, 1495330553, 3657371231⟩ := rounds_at rg16 (show kTab 16 = 3835390401 by kernel_rfl) wg16 (by kernel_rfl)
theorem rg18 : rounds iv (wf bgr) kTab 18 = ⟨3915364458, 4143524919, 1015955776, 575686508, 3328877776, 1094465522, 1290881933, 1495330553⟩ := rounds_at rg17 (show kTab 17 = 4022224774 by kernel_rfl) wg17 (by kernel_rfl)
theorem rg19 : rounds iv (wf bgr) kTab 19 = ⟨3547221812, 3915364458, 4143524919, 1015955776, 4043202300, 3328877776, 1094465522, 1290881933⟩ := rounds_at rg18 (show kTab 18 = 264347078 by kernel_rfl) wg18 (by kernel_rfl)
theorem rg20 : rounds iv (wf bgr) kTab 20 = ⟨230118133, 3547221812, 3915364458, 4143524919, 1652853773, 4043202300, 3328877776, 1094465522⟩ := rounds_at rg19 (show kTab 19 = 604807628 by kernel_rfl) wg19 (by kernel_rfl)
theorem rg21 : rounds iv (wf bgr) kTab 21 = ⟨2186268284, 230118133, 3547221812, 3915364458, 2788897550, 1652853773, 4043202300, 3328877776⟩ := rounds_at rg20 (show kTab 20 = 770255983 by kernel_rfl) wg20 (by kernel_rfl)
theorem rg22 : rounds iv (wf bgr) kTab 22 = ⟨1993640116, 2186268284, 230118133, 3547221812, 1886838466, 2788897550, 1652853773, 4043202300⟩ := rounds_at rg21 (show kTab 21 = 1249150122 by kernel_rfl) wg21 (by kernel_rfl)
theorem rg23 : rounds iv (wf bgr) kTab 23 = ⟨1262169439, 1993640116, 2186268284, 230118133, 228420685, 1886838466, 2788897550, 1652853773⟩ := rounds_at rg22 (show kTab 22 = 1555081692 by kernel_rfl) wg22 (by kernel_rfl)
theorem rg24 : rounds iv (wf bgr) kTab 24 = ⟨3141410882, 1262169439, 1993640116, 2186268284, 840169241, 228420685, 1886838466, 2788897550⟩ := rounds_at rg23 (show kTab 23 = 1996064986 by kernel_rfl) wg23 (by kernel_rfl)
theorem rg25 : rounds iv (wf bgr) kTab 25 = ⟨1517848001, 3141410882, 1262169439, 1993640116, 221171930, 840169241, 228420685, 1886838466⟩ := rounds_at rg24 (show kTab 24 = 2554220882 by kernel_rfl) wg24 (by kernel_rfl)
theorem rg26 : rounds iv (wf bgr) kTab 26 = ⟨304683835, 1517848001, 3141410882, 1262169439, 2470414031, 221171930, 840169241, 228420685⟩ := rounds_at rg25 (show kTab 25 = 2821834349 by kernel_rfl) wg25 (by kernel_rfl)
theorem rg27 : rounds iv (wf bgr) kTab 27 = ⟨3774588913, 304683835, 1517848001, 3141410882, 1489016895, 2470414031, 221171930, 840169241⟩ := rounds_at rg26 (show kTab 26 = 2952996808 by kernel_rfl) wg26 (by kernel_rfl)
theorem rg28 : rounds iv (wf bgr) kTab 28 = ⟨1804593403, 3774588913, 304683835, 1517848001, 723933098, 1489016895, 2470414031, 221171930⟩ := rounds_at rg27 (show kTab 27 = 3210313671 by kernel_rfl) wg27 (by kernel_rfl)
theorem rg29 : rounds iv (wf bgr) kTab 29 = ⟨207827124, 1804593403, 3774588913, 304683835, 1637138059, 723933098, 1489016895, 2470414031⟩ := rounds_at rg28 (show kTab 28 = 3336571891 by kernel_rfl) wg28 (by kernel_rfl)
theorem rg30 : rounds iv (wf bgr) kTab 30 = ⟨790192558, 207827124, 1804593403, 3774588913, 3453770995, 1637138059, 723933098, 1489016895⟩ := rounds_at rg29 (show kTab 29 = 3584528711 by kernel_rfl) wg29 (by kernel_rfl)
theorem rg31 : rounds iv (wf bgr) kTab 31 = ⟨4418159, 790192558, 207827124, 1804593403, 3473021318, 3453770995, 1637138059, 723933098⟩ := rounds_at rg30 (show kTab 30 = 113926993 by kernel_rfl) wg30 (by kernel_rfl)
theorem rg32 : rounds iv (wf bgr) kTab 32 = ⟨267308018, 4418159, 790192558, 207827124, 3497652158, 3473021318, 3453770995, 1637138059⟩ := rounds_at rg31 (show kTab 31 = 338241895 by kernel_rfl) wg31 (by kernel_rfl)
theorem rg33 : rounds iv (wf bgr) kTab 33 = ⟨2756342324, 267308018, 4418159, 790192558, 975057221, 3497652158, 3473021318, 3453770995⟩ := rounds_at rg32 (show kTab 32 = 666307205 by kernel_rfl) wg32 (by kernel_rfl)
theorem rg34 : rounds iv (wf bgr) kTab 34 = ⟨38388289, 2756342324, 267308018, 4418159, 2610515242, 975057221, 3497652158, 3473021318⟩ := rounds_at rg33 (show kTab 33 = 773529912 by kernel_rfl) wg33 (by kernel_rfl)
theorem rg35 : rounds iv (wf bgr) kTab 35 = ⟨2866119168, 38388289, 2756342324, 267308018, 792380200, 2610515242, 975057221, 3497652158⟩ := rounds_at rg34 (show kTab 34 = 1294757372 by kernel_rfl) wg34 (by kernel_rfl)
theorem rg36 : rounds iv (wf bgr) kTab 36 = ⟨3883016565, 2866119168, 38388289, 2756342324, 3898537696, 792380200, 2610515242, 975057221⟩ := rounds_at rg35 (show kTab 35 = 1396182291 by kernel_rfl) wg35 (by kernel_rfl)
theorem rg37 : rounds iv (wf bgr) kTab 37 = ⟨4112757436, 3883016565, 2866119168, 38388289, 1009139294, 3898537696, 792380200, 2610515242⟩ := rounds_at rg36 (show kTab 36 = 1695183700 by kernel_rfl) wg36 (by kernel_rfl)
theorem rg38 : rounds iv (wf bgr) kTab 38 = ⟨1188593675, 4112757436, 3883016565, 2866119168, 994634162, 1009139294, 3898537696, 792380200⟩ := rounds_at rg37 (show kTab 37 = 1986661051 by kernel_rfl) wg37 (by kernel_rfl)
theorem rg39 : rounds iv (wf bgr) kTab 39 = ⟨2297800622, 1188593675, 4112757436, 3883016565, 2557234580, 994634162, 1009139294, 3898537696⟩ := rounds_at rg38 (show kTab 38 = 2177026350 by kernel_rfl) wg38 (by kernel_rfl)
theorem rg40 : rounds iv (wf bgr) kTab 40 = ⟨2611923344, 2297800622, 1188593675, 4112757436, 1951904754, 2557234580, 994634162, 1009139294⟩ := rounds_at rg39 (show kTab 39 = 2456956037 by kernel_rfl) wg39 (by kernel_rfl)
theorem rg41 : rounds iv (wf bgr) kTab 41 = ⟨3983770346, 2611923344, 2297800622, 1188593675, 2253489824, 1951904754, 2557234580, 994634162⟩ := rounds_at rg40 (show kTab 40 = 2730485921 by kernel_rfl) wg40 (by kernel_rfl)
theorem rg42 : rounds iv (wf bgr) kTab 42 = ⟨1436782, 3983770346, 2611923344, 2297800622, 1526122556, 2253489824, 1951904754, 2557234580⟩ := rounds_at rg41 (show kTab 41 = 2820302411 by kernel_rfl) wg41 (by kernel_rfl)
theorem rg43 : rounds iv (wf bgr) kTab 43 = ⟨3550778174, 1436782, 3983770346, 2611923344, 513650254, 1526122556, 2253489824, 1951904754⟩ := rounds_at rg42 (show kTab 42 = 3259730800 by kernel_rfl) wg42 (by kernel_rfl)
theorem rg44 : rounds iv (wf bgr) kTab 44 = ⟨4268864469, 3550778174, 1436782, 3983770346, 429373522, 513650254, 1526122556, 2253489824⟩ := rounds_at rg43 (show kTab 43 = 3345764771 by kernel_rfl) wg43 (by kernel_rfl)
theorem rg45 : rounds iv (wf bgr) kTab 45 = ⟨3711481407, 4268864469, 3550778174, 1436782, 3497639210, 429373522, 513650254, 1526122556⟩ := rounds_at rg44 (show kTab 44 = 3516065817 by kernel_rfl) wg44 (by kernel_rfl)
theorem rg46 : rounds iv (wf bgr) kTab 46 = ⟨1160899978, 3711481407, 4268864469, 3550778174, 3249466235, 3497639210, 429373522, 513650254⟩ := rounds_at rg45 (show kTab 45 = 3600352804 by kernel_rfl) wg45 (by kernel_rfl)
theorem rg47 : rounds iv (wf bgr) kTab 47 = ⟨3721369680, 1160899978, 3711481407, 4268864469, 2577004534, 3249466235, 3497639210, 429373522⟩ := rounds_at rg46 (show kTab 46 = 4094571909 by kernel_rfl) wg46 (by kernel_rfl)
theorem rg48 : rounds iv (wf bgr) kTab 48 = ⟨2075183683, 3721369680, 1160899978, 3711481407, 3511973599, 2577004534, 3249466235, 3497639210⟩ := rounds_at rg47 (show kTab 47 = 275423344 by kernel_rfl) wg47 (by kernel_rfl)
theorem rg49 : rounds iv (wf bgr) kTab 49 = ⟨3387532753, 2075183683, 3721369680, 1160899978, 4187074774, 3511973599, 2577004534, 3249466235⟩ := rounds_at rg48 (show kTab 48 = 430227734 by kernel_rfl) wg48 (by kernel_rfl)
theorem rg50 : rounds iv (wf bgr) kTab 50 = ⟨278252649, 3387532753, 2075183683, 3721369680, 2172309636, 4187074774, 3511973599, 2577004534⟩ := rounds_at rg49 (show kTab 49 = 506948616 by kernel_rfl) wg49 (by kernel_rfl)
theorem rg51 : rounds iv (wf bgr) kTab 51 = ⟨1931468947, 278252649, 3387532753, 2075183683, 2262915244, 2172309636, 4187074774, 3511973599⟩ := rounds_at rg50 (show kTab 50 = 659060556 by kernel_rfl) wg50 (by kernel_rfl)
theorem rg52 : rounds iv (wf bgr) kTab 52 = ⟨310877002, 1931468947, 278252649, 3387532753, 2495370149, 2262915244, 2172309636, 4187074774⟩ := rounds_at rg51 (show kTab 51 = 883997877 by kernel_rfl) wg51 (by kernel_rfl)
theorem rg53 : rounds iv (wf bgr) kTab 53 = ⟨3114773515, 310877002, 1931468947, 278252649, 811413229, 2495370149, 2262915244, 2172309636⟩ := rounds_at rg52 (show kTab 52 = 958139571 by kernel_rfl) wg52 (by kernel_rfl)
theorem rg54 : rounds iv (wf bgr) kTab 54 = ⟨1054192414, 3114773515, 310877002, 1931468947, 190828195, 811413229, 2495370149, 2262915244⟩ := rounds_at rg53 (show kTab 53 = 1322822218 by kernel_rfl) wg53 (by kernel_rfl)
theorem rg55 : rounds iv (wf bgr) kTab 55 = ⟨910597554, 1054192414, 3114773515, 310877002, 760602794, 190828195, 811413229, 2495370149⟩ := rounds_at rg54 (show kTab 54 = 1537002063 by kernel_rfl) wg54 (by kernel_rfl)
theorem rg56 : rounds iv (wf bgr) kTab 56 = ⟨3213535570, 910597554, 1054192414, 3114773515, 416524801, 760602794, 190828195, 811413229⟩ := rounds_at rg55 (show kTab 55 = 1747873779 by kernel_rfl) wg55 (by kernel_rfl)
theorem rg57 : rounds iv (wf bgr) kTab 57 = ⟨3844376159, 3213535570, 910597554, 1054192414, 2419285081, 416524801, 760602794, 190828195⟩ := rounds_at rg56 (show kTab 56 = 1955562222 by kernel_rfl) wg56 (by kernel_rfl)
theorem rg58 : rounds iv (wf bgr) kTab 58 = ⟨2395999183, 3844376159, 3213535570, 910597554, 3169827444, 2419285081, 416524801, 760602794⟩ := rounds_at rg57 (show kTab 57 = 2024104815 by kernel_rfl) wg57 (by kernel_rfl)
theorem rg59 : rounds iv (wf bgr) kTab 59 = ⟨3589611270, 2395999183, 3844376159, 3213535570, 1590945553, 3169827444, 2419285081, 416524801⟩ := rounds_at rg58 (show kTab 58 = 2227730452 by kernel_rfl) wg58 (by kernel_rfl)
theorem rg60 : rounds iv (wf bgr) kTab 60 = ⟨3238948289, 3589611270, 2395999183, 3844376159, 560796806, 1590945553, 3169827444, 2419285081⟩ := rounds_at rg59 (show kTab 59 = 2361852424 by kernel_rfl) wg59 (by kernel_rfl)
theorem rg61 : rounds iv (wf bgr) kTab 61 = ⟨3865706718, 3238948289, 3589611270, 2395999183, 3720340335, 560796806, 1590945553, 3169827444⟩ := rounds_at rg60 (show kTab 60 = 2428436474 by kernel_rfl) wg60 (by kernel_rfl)
theorem rg62 : rounds iv (wf bgr) kTab 62 = ⟨2859303090, 3865706718, 3238948289, 3589611270, 1549841853, 3720340335, 560796806, 1590945553⟩ := rounds_at rg61 (show kTab 61 = 2756734187 by kernel_rfl) wg61 (by kernel_rfl)
theorem rg63 : rounds iv (wf bgr) kTab 63 = ⟨1799544637, 2859303090, 3865706718, 3238948289, 1170015112, 1549841853, 3720340335, 560796806⟩ := rounds_at rg62 (show kTab 62 = 3204031479 by kernel_rfl) wg62 (by kernel_rfl)
theorem rg64 : rounds iv (wf bgr) kTab 64 = ⟨1346216523, 1799544637, 2859303090, 3865706718, 2124052186, 1170015112, 1549841853, 3720340335⟩ := rounds_at rg63 (show kTab 63 = 3329325298 by kernel_rfl) wg63 (by kernel_rfl)
theorem pad_green : (padB green).length = 64 := by kernel_rfl
theorem nb_green : nb green = 1 := by rw [nb, pad_green]
theorem hash_green : hashTo kTab green 1 = ⟨3125250226, 648711618, 3873207332, 2344220184, 3483945305, 3770838036, 2078576488, 966832264⟩ := by
  rw [hashTo, hashTo, show rounds iv (wf (blk green 0)) kTab 64 = _ from rg64]
  kernel_rfl
/-- The first signs of its digest. -/
theorem short_green : short kTab green = [98, 97, 52, 55, 56, 56, 98, 50, 50, 54, 97, 97, 56, 100, 99, 50] := by
  rw [short, nb_green, hash_green]
  kernel_rfl
end Go.Proofs.YtgdmgmklncmanaaGreatDoor
/- The document's archive, taken apart; and the same with one sign more. -/
namespace Go.Proofs.YtgdmgmklncmanaaGreatDoor
open Go.RowKit
open Arc (St Cmd S)

def teaHead : S := [104, 97, 118, 101, 110, 32, 49, 10, 110, 97, 109, 101, 32, 116, 101, 97, 10, 118, 101, 114, 115, 105, 111, 110, 32, 49, 46, 48, 10, 102, 105, 108, 101, 32, 47, 98, 105, 110, 47, 116, 101, 97, 32, 53, 32, 98, 97, 52, 55, 56, 56, 98, 50, 50, 54, 97, 97, 56, 100, 99, 50, 10, 114, 117, 110, 32, 97, 100, 100, 32, 47, 118, 97, 114, 47, 108, 111, 103, 32, 116, 101, 97]
def teaL1 : S := [102, 105, 108, 101, 32, 47, 98, 105, 110, 47, 116, 101, 97, 32, 53, 32, 98, 97, 52, 55, 56, 56, 98, 50, 50, 54, 97, 97, 56, 100, 99, 50]
def teaL2 : S := [114, 117, 110, 32, 97, 100, 100, 32, 47, 118, 97, 114, 47, 108, 111, 103, 32, 116, 101, 97]
def teaPath : S := [47, 98, 105, 110, 47, 116, 101, 97]
def teaLog : S := [47, 118, 97, 114, 47, 108, 111, 103]
def teaNm : S := [116, 101, 97]
def teaVe : S := [49, 46, 48]
def teaSum : S := [98, 97, 52, 55, 56, 56, 98, 50, 50, 54, 97, 97, 56, 100, 99, 50]
/-- The archive; e: what stands behind it. -/
def teaX (e : S) : S := teaHead ++ [10, 10] ++ green ++ e
def teaSt (e : S) : Nat → St
  | 0 => .of (green ++ e)
  | 1 => { needs := [], breaks := [], wakes := [], files := [(teaPath, green)], runs := [], wokens := [], left := e }
  | _ => { needs := [], breaks := [], wakes := [], files := [(teaPath, green)], runs := [⟨2, teaLog, teaNm, []⟩], wokens := [], left := e }

theorem tea_line0 (e : S) (he : e.length ≤ 1) (pb : Nat) (hp0 : 9 ≤ pb) (mx : Int) (w : World) (hm : w.cell? ⟨0, 0, none⟩ = some (.int .i64 mx)) (hK : ∀ i : Nat, i < 64 → w.cell? ⟨3, i, none⟩ = some (.int .u32 (kTab i))) :
    LineOk pb teaNm teaVe (teaSt e) teaL1 0 w := by
  intro sl w1 hp hb q hq hc
  rw [show kof teaL1 = 4 by kernel_rfl, show (sp 32 teaL1).length - 1 = 3 by kernel_rfl]
  have hc' : ∀ j, j < 4 → w1.cell? ⟨q, j, none⟩ = some (strV ((sp 32 teaL1).getD j [])) := fun j hj => hc j (by rw [show (sp 32 teaL1).length = 4 by kernel_rfl]; exact hj)
  have h := line_file pb q 1 3 teaNm teaVe (teaSt e 0) sl teaPath [53] teaSum 5 mx kTab w1 hp hp0 rfl (by decide) (by show (green ++ e).length ≤ 2000; rw [List.length_append]; have : green.length = 5 := rfl; omega)
    (by decide) (by decide) (by decide) (by kernel_rfl) (by kernel_rfl) (by show 5 ≤ (green ++ e).length; rw [List.length_append]; have : green.length = 5 := rfl; omega) (by kernel_rfl) (by kernel_rfl)
    (by rw [show (teaSt e 0).left.take 5 = green from by show (green ++ e).take 5 = green; simp [green]]; exact short_green)
    ((hb.cell (p := ⟨0, 0, none⟩) (by show 0 < pb; omega)).trans hm)
    (fun i hi => (hb.cell (p := ⟨3, i, none⟩) (by show 3 < pb; omega)).trans (hK i hi))
    (hc' 1 (by omega)) (hc' 2 (by omega)) (hc' 3 (by omega))
  refine h.mono ?_
  rintro e' w2 ⟨rfl, sl', hp2, hb2⟩
  refine ⟨rfl, sl', ?_, hb2⟩
  have e1 : (teaSt e 0).left.take 5 = green := by show (green ++ e).take 5 = green; simp [green]
  have e2 : (teaSt e 0).left.drop 5 = e := by show (green ++ e).drop 5 = e; simp [green]
  rw [e1, e2] at hp2
  exact hp2

theorem tea_line1 (e : S) (pb : Nat) (hp0 : 9 ≤ pb) (mx : Int) (w : World) (hm : w.cell? ⟨0, 0, none⟩ = some (.int .i64 mx)) :
    LineOk pb teaNm teaVe (teaSt e) teaL2 1 w := by
  intro sl w1 hp hb q hq hc
  rw [show kof teaL2 = 5 by kernel_rfl, show (sp 32 teaL2).length - 1 = 3 by kernel_rfl]
  have hc' : ∀ j, j < 4 → w1.cell? ⟨q, j, none⟩ = some (strV ((sp 32 teaL2).getD j [])) := fun j hj => hc j (by rw [show (sp 32 teaL2).length = 4 by kernel_rfl]; exact hj)
  have h := line_run pb q 1 3 teaNm teaVe (teaSt e 1) sl teaLog teaNm mx w1 hp (by show (0 : Nat) ≤ 30; omega) (by decide) (by decide) (by kernel_rfl) (by kernel_rfl)
    ((hb.cell (p := ⟨0, 0, none⟩) (by show 0 < pb; omega)).trans hm) hq (hc' 1 (by omega)) (hc' 2 (by omega)) (hc' 3 (by omega))
  exact h

theorem tea_lines (e : S) (he : e.length ≤ 1) (mx : Int) (w : World) (hw9 : 9 ≤ w.heap.size) (hm : w.cell? ⟨0, 0, none⟩ = some (.int .i64 mx)) (hK : ∀ i : Nat, i < 64 → w.cell? ⟨3, i, none⟩ = some (.int .u32 (kTab i))) :
    ∀ w1, Below w.heap.size w w1 → ∀ k, k < [teaL1, teaL2].length → LineOk (w.heap.size + 1 + 1) teaNm teaVe (teaSt e) ([teaL1, teaL2].getD k []) k w1 := by
  intro w1 hb k hk
  have hm1 := (hb.cell (p := ⟨0, 0, none⟩) (by show 0 < w.heap.size; omega)).trans hm
  have hK1 : ∀ i : Nat, i < 64 → w1.cell? ⟨3, i, none⟩ = some (.int .u32 (kTab i)) := fun i hi => (hb.cell (p := ⟨3, i, none⟩) (by show 3 < w.heap.size; omega)).trans (hK i hi)
  match k, hk with
  | 0, _ => exact tea_line0 e he _ (by omega) mx w1 hm1 hK1
  | 1, _ => exact tea_line1 e _ (by omega) mx w1 hm1
  | k + 2, h => exact absurd h (by simp)

theorem tea_kinds : ∀ k, k < [teaL1, teaL2].length → kof ([teaL1, teaL2].getD k []) ≠ 0 ∧ lastK [teaL1, teaL2] k ≤ kof ([teaL1, teaL2].getD k []) := by
  intro k hk
  match k, hk with
  | 0, _ => exact ⟨by decide +kernel, by decide +kernel⟩
  | 1, _ => exact ⟨by decide +kernel, by decide +kernel⟩
  | k + 2, h => exact absurd h (by simp)
theorem tea_lens : ∀ k, k < [teaL1, teaL2].length → 2 ≤ (sp 32 ([teaL1, teaL2].getD k [])).length := by
  intro k hk
  match k, hk with
  | 0, _ => exact of_decide_eq_true (by kernel_rfl)
  | 1, _ => exact of_decide_eq_true (by kernel_rfl)
  | k + 2, h => exact absurd h (by simp)

/-- The document's archive. -/
theorem tea_ok (mx : Int) (w : World) (hw9 : 9 ≤ w.heap.size) (hm : w.cell? ⟨0, 0, none⟩ = some (.int .i64 mx)) (hK : ∀ i : Nat, i < 64 → w.cell? ⟨3, i, none⟩ = some (.int .u32 (kTab i))) :
    Calls Tryz.prog 9 #[.string ⟨(teaX []).toArray⟩] w fun e w' => ∃ o, e = .returned (.tuple #[.agg #[.string ⟨teaNm.toArray⟩, .string ⟨teaVe.toArray⟩, .int .i64 0, .int .i64 0, .int .i64 0, .int .i64 1, .int .i64 1, .int .i64 0, o], .int .i64 0])
      ∧ w'.ownsRow w.heap.size 9 1 o 1 [.string ⟨teaPath.toArray⟩] ∧ Below w.heap.size w w' := by
  have h := inspect_ok (teaX []) teaNm teaVe (teaSt [] 2) w (by decide) (by decide) (by decide) (by intro p hp; simp [teaSt] at hp; subst hp; decide) (fun w1 hb hs =>
    archive_ok (teaX []) teaHead (green ++ []) [110, 97, 109, 101, 32, 116, 101, 97] [118, 101, 114, 115, 105, 111, 110, 32, 49, 46, 48] teaNm teaVe [teaL1, teaL2] (teaSt []) mx w1 (of_decide_eq_true (by kernel_rfl)) (by kernel_rfl) (of_decide_eq_true (by kernel_rfl)) (by kernel_rfl) (by decide) (by decide)
      (by intro y hy; simp at hy; rcases hy with rfl | rfl <;> exact of_decide_eq_true (by kernel_rfl)) (by decide) (by omega) (by kernel_rfl) (by kernel_rfl) (by kernel_rfl) (by kernel_rfl) (by kernel_rfl) (by kernel_rfl)
      ((hb.cell (p := ⟨0, 0, none⟩) (by show 0 < w.heap.size; omega)).trans hm) rfl tea_kinds tea_lens
      (tea_lines [] (by decide) mx w1 (by omega) ((hb.cell (p := ⟨0, 0, none⟩) (by show 0 < w.heap.size; omega)).trans hm) (fun i hi => (hb.cell (p := ⟨3, i, none⟩) (by show 3 < w.heap.size; omega)).trans (hK i hi))) rfl)
  exact h

/-- With a blank behind it there is none. -/
theorem tea_bad (mx : Int) (w : World) (hw9 : 9 ≤ w.heap.size) (hm : w.cell? ⟨0, 0, none⟩ = some (.int .i64 mx)) (hK : ∀ i : Nat, i < 64 → w.cell? ⟨3, i, none⟩ = some (.int .u32 (kTab i))) :
    Calls Tryz.prog 9 #[.string ⟨(teaX [32]).toArray⟩] w fun e w' => e = .returned (.tuple #[.agg noInfo, .int .i64 3]) ∧ Below w.heap.size w w' :=
  inspect_bad (teaX [32]) w (fun w1 hb hs =>
    archive_left (teaX [32]) teaHead (green ++ [32]) [110, 97, 109, 101, 32, 116, 101, 97] [118, 101, 114, 115, 105, 111, 110, 32, 49, 46, 48] teaNm teaVe [teaL1, teaL2] (teaSt [32]) mx w1 (of_decide_eq_true (by kernel_rfl)) (by kernel_rfl) (of_decide_eq_true (by kernel_rfl)) (by kernel_rfl) (by decide) (by decide)
      (by intro y hy; simp at hy; rcases hy with rfl | rfl <;> exact of_decide_eq_true (by kernel_rfl)) (by decide) (by omega) (by kernel_rfl) (by kernel_rfl) (by kernel_rfl) (by kernel_rfl) (by kernel_rfl) (by kernel_rfl)
      ((hb.cell (p := ⟨0, 0, none⟩) (by show 0 < w.heap.size; omega)).trans hm) rfl tea_kinds tea_lens
      (tea_lines [32] (by decide) mx w1 (by omega) ((hb.cell (p := ⟨0, 0, none⟩) (by show 0 < w.heap.size; omega)).trans hm) (fun i hi => (hb.cell (p := ⟨3, i, none⟩) (by show 3 < w.heap.size; omega)).trans (hK i hi))) [32] rfl rfl)
end Go.Proofs.YtgdmgmklncmanaaGreatDoor
