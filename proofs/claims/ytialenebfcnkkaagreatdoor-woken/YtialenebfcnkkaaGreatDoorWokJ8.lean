/- TeaHash, BaseW, DvW3, StW1, StW2 -/
import Derived.Test.YtialenebfcnkkaaGreatDoorWokJ6
import Derived.KernelRfl
import Derived.Test.YtialenebfcnkkaaGreatDoorWokJ7
import Derived.Test.YtialenebfcnkkaaGreatDoorWokJ1
import Derived.Lib.LaidTab
import Derived.Lib.ItoaLen
import Derived.Deep.RegionHeld3
set_option maxHeartbeats 4000000
set_option maxRecDepth 100000
namespace Go.Proofs.YtialenebfcnkkaaGreatDoor
def kList:List Int:=[1116352408,1899447441,3049323471,3921009573,961987163,1508970993,2453635748,2870763221,3624381080,310598401,607225278,1426881987,1925078388,2162078206,2614888103,3248222580,3835390401,4022224774,264347078,604807628,770255983,1249150122,1555081692,1996064986,2554220882,2821834349,2952996808,3210313671,3336571891,3584528711,113926993,338241895,666307205,773529912,1294757372,1396182291,1695183700,1986661051,2177026350,2456956037,2730485921,2820302411,3259730800,3345764771,3516065817,3600352804,4094571909,275423344,430227734,506948616,659060556,883997877,958139571,1322822218,1537002063,1747873779,1955562222,2024104815,2227730452,2361852424,2428436474,2756734187,3204031479,3329325298]
def kTab (i:Nat):Int:=kList.getD i 0
def green:List UInt8:=[103,114,101,101,110]
def bgr:Nat→Int:=blk green 0
theorem wf_at {b:Nat→Int} (m:Nat) {a0 a1 a9 a14 v:Int} (h0:wf b m=a0) (h1:wf b (m+1)=a1) (h9:wf b (m+9)=a9) (h14:wf b (m+14)=a14) (hv:(sS1 a14+a9+sS0 a1+a0)%4294967296=v):wf b (m+16)=v:=by
 rw[wf_high (by omega),show m+16-2=m+14 from by omega,show m+16-7=m+9 from by omega,show m+16-15=m+1 from by omega,show m+16-16=m from by omega,h0,h1,h9,h14,hv]
theorem rounds_at {r s s':R8} {F K:Nat→Int} {n:Nat} {k x:Int} (h:rounds r F K n=s) (hk:K n=k) (hx:F n=x) (hs:s.next k x=s'):rounds r F K (n+1)=s':=by
 rw[rounds,h,hk,hx,hs]
theorem word_at {b:Nat→Int} {k:Nat} {v:Int} (h:k<16) (hv:word4 b k=v):wf b k=v:=(wf_low h).trans hv
theorem wg0:wf bgr 0=1735550309:=word_at (by decide) (by kernel_rfl)
theorem wg1:wf bgr 1=1853882368:=word_at (by decide) (by kernel_rfl)
theorem wg2:wf bgr 2=0:=word_at (by decide) (by kernel_rfl)
theorem wg3:wf bgr 3=0:=word_at (by decide) (by kernel_rfl)
theorem wg4:wf bgr 4=0:=word_at (by decide) (by kernel_rfl)
theorem wg5:wf bgr 5=0:=word_at (by decide) (by kernel_rfl)
theorem wg6:wf bgr 6=0:=word_at (by decide) (by kernel_rfl)
theorem wg7:wf bgr 7=0:=word_at (by decide) (by kernel_rfl)
theorem wg8:wf bgr 8=0:=word_at (by decide) (by kernel_rfl)
theorem wg9:wf bgr 9=0:=word_at (by decide) (by kernel_rfl)
theorem wg10:wf bgr 10=0:=word_at (by decide) (by kernel_rfl)
theorem wg11:wf bgr 11=0:=word_at (by decide) (by kernel_rfl)
theorem wg12:wf bgr 12=0:=word_at (by decide) (by kernel_rfl)
theorem wg13:wf bgr 13=0:=word_at (by decide) (by kernel_rfl)
theorem wg14:wf bgr 14=0:=word_at (by decide) (by kernel_rfl)
theorem wg15:wf bgr 15=40:=word_at (by decide) (by kernel_rfl)
theorem wg16:wf bgr 16=1954513157:=wf_at 0 wg0 wg1 wg9 wg14 (by kernel_rfl)
theorem wg17:wf bgr 17=1854996480:=wf_at 1 wg1 wg2 wg10 wg15 (by kernel_rfl)
theorem wg18:wf bgr 18=817826640:=wf_at 2 wg2 wg3 wg11 wg16 (by kernel_rfl)
theorem wg19:wf bgr 19=2686164698:=wf_at 3 wg3 wg4 wg12 wg17 (by kernel_rfl)
theorem wg20:wf bgr 20=1691234698:=wf_at 4 wg4 wg5 wg13 wg18 (by kernel_rfl)
theorem wg21:wf bgr 21=3164472041:=wf_at 5 wg5 wg6 wg14 wg19 (by kernel_rfl)
theorem wg22:wf bgr 22=3740093850:=wf_at 6 wg6 wg7 wg15 wg20 (by kernel_rfl)
theorem wg23:wf bgr 23=897994593:=wf_at 7 wg7 wg8 wg16 wg21 (by kernel_rfl)
theorem wg24:wf bgr 24=2111475704:=wf_at 8 wg8 wg9 wg17 wg22 (by kernel_rfl)
theorem wg25:wf bgr 25=521201968:=wf_at 9 wg9 wg10 wg18 wg23 (by kernel_rfl)
theorem wg26:wf bgr 26=3057116879:=wf_at 10 wg10 wg11 wg19 wg24 (by kernel_rfl)
theorem wg27:wf bgr 27=3465017818:=wf_at 11 wg11 wg12 wg20 wg25 (by kernel_rfl)
theorem wg28:wf bgr 28=3425805069:=wf_at 12 wg12 wg13 wg21 wg26 (by kernel_rfl)
theorem wg29:wf bgr 29=3805474055:=wf_at 13 wg13 wg14 wg22 wg27 (by kernel_rfl)
theorem wg30:wf bgr 30=1801757532:=wf_at 14 wg14 wg15 wg23 wg28 (by kernel_rfl)
theorem wg31:wf bgr 31=2367462373:=wf_at 15 wg15 wg16 wg24 wg29 (by kernel_rfl)
theorem wg32:wf bgr 32=2793334223:=wf_at 16 wg16 wg17 wg25 wg30 (by kernel_rfl)
theorem wg33:wf bgr 33=1746446893:=wf_at 17 wg17 wg18 wg26 wg31 (by kernel_rfl)
theorem wg34:wf bgr 34=4105480787:=wf_at 18 wg18 wg19 wg27 wg32 (by kernel_rfl)
theorem wg35:wf bgr 35=1086923885:=wf_at 19 wg19 wg20 wg28 wg33 (by kernel_rfl)
theorem wg36:wf bgr 36=1280334838:=wf_at 20 wg20 wg21 wg29 wg34 (by kernel_rfl)
theorem wg37:wf bgr 37=1538565388:=wf_at 21 wg21 wg22 wg30 wg35 (by kernel_rfl)
theorem wg38:wf bgr 38=3919867206:=wf_at 22 wg22 wg23 wg31 wg36 (by kernel_rfl)
theorem wg39:wf bgr 39=4277501003:=wf_at 23 wg23 wg24 wg32 wg37 (by kernel_rfl)
theorem wg40:wf bgr 40=4206179922:=wf_at 24 wg24 wg25 wg33 wg38 (by kernel_rfl)
theorem wg41:wf bgr 41=2507296791:=wf_at 25 wg25 wg26 wg34 wg39 (by kernel_rfl)
theorem wg42:wf bgr 42=2266619366:=wf_at 26 wg26 wg27 wg35 wg40 (by kernel_rfl)
theorem wg43:wf bgr 43=3890339454:=wf_at 27 wg27 wg28 wg36 wg41 (by kernel_rfl)
theorem wg44:wf bgr 44=2788335103:=wf_at 28 wg28 wg29 wg37 wg42 (by kernel_rfl)
theorem wg45:wf bgr 45=1051589052:=wf_at 29 wg29 wg30 wg38 wg43 (by kernel_rfl)
theorem wg46:wf bgr 46=2214892587:=wf_at 30 wg30 wg31 wg39 wg44 (by kernel_rfl)
theorem wg47:wf bgr 47=4272475937:=wf_at 31 wg31 wg32 wg40 wg45 (by kernel_rfl)
theorem wg48:wf bgr 48=2449172388:=wf_at 32 wg32 wg33 wg41 wg46 (by kernel_rfl)
theorem wg49:wf bgr 49=23655416:=wf_at 33 wg33 wg34 wg42 wg47 (by kernel_rfl)
theorem wg50:wf bgr 50=1461523427:=wf_at 34 wg34 wg35 wg43 wg48 (by kernel_rfl)
theorem wg51:wf bgr 51=1114527214:=wf_at 35 wg35 wg36 wg44 wg49 (by kernel_rfl)
theorem wg52:wf bgr 52=4044965601:=wf_at 36 wg36 wg37 wg45 wg50 (by kernel_rfl)
theorem wg53:wf bgr 53=1271540545:=wf_at 37 wg37 wg38 wg46 wg51 (by kernel_rfl)
theorem wg54:wf bgr 54=1259305009:=wf_at 38 wg38 wg39 wg47 wg52 (by kernel_rfl)
theorem wg55:wf bgr 55=3640841232:=wf_at 39 wg39 wg40 wg48 wg53 (by kernel_rfl)
theorem wg56:wf bgr 56=4172006784:=wf_at 40 wg40 wg41 wg49 wg54 (by kernel_rfl)
theorem wg57:wf bgr 57=3353363663:=wf_at 41 wg41 wg42 wg50 wg55 (by kernel_rfl)
theorem wg58:wf bgr 58=4202872592:=wf_at 42 wg42 wg43 wg51 wg56 (by kernel_rfl)
theorem wg59:wf bgr 59=1354819460:=wf_at 43 wg43 wg44 wg52 wg57 (by kernel_rfl)
theorem wg60:wf bgr 60=4229527405:=wf_at 44 wg44 wg45 wg53 wg58 (by kernel_rfl)
theorem wg61:wf bgr 61=1533443802:=wf_at 45 wg45 wg46 wg54 wg59 (by kernel_rfl)
theorem wg62:wf bgr 62=1649141725:=wf_at 46 wg46 wg47 wg55 wg60 (by kernel_rfl)
theorem wg63:wf bgr 63=1793790502:=wf_at 47 wg47 wg48 wg56 wg61 (by kernel_rfl)
theorem rg0:rounds iv (wf bgr) kTab 0=⟨1779033703,3144134277,1013904242,2773480762,1359893119,2600822924,528734635,1541459225⟩:=rfl
theorem rg1:rounds iv (wf bgr) kTab 1=⟨1669000626,1779033703,3144134277,1013904242,3819527,1359893119,2600822924,528734635⟩:=rounds_at rg0 (show kTab 0=1116352408 by kernel_rfl) wg0 (by kernel_rfl)
theorem rg2:rounds iv (wf bgr) kTab 2=⟨645317777,1669000626,1779033703,3144134277,3632160806,3819527,1359893119,2600822924⟩:=rounds_at rg1 (show kTab 1=1899447441 by kernel_rfl) wg1 (by kernel_rfl)
theorem rg3:rounds iv (wf bgr) kTab 3=⟨185419416,645317777,1669000626,1779033703,2918402655,3632160806,3819527,1359893119⟩:=rounds_at rg2 (show kTab 2=3049323471 by kernel_rfl) wg2 (by kernel_rfl)
theorem rg4:rounds iv (wf bgr) kTab 4=⟨3065903408,185419416,645317777,1669000626,4197429543,2918402655,3632160806,3819527⟩:=rounds_at rg3 (show kTab 3=3921009573 by kernel_rfl) wg3 (by kernel_rfl)
theorem rg5:rounds iv (wf bgr) kTab 5=⟨3370090817,3065903408,185419416,645317777,4065239274,4197429543,2918402655,3632160806⟩:=rounds_at rg4 (show kTab 4=961987163 by kernel_rfl) wg4 (by kernel_rfl)
theorem rg6:rounds iv (wf bgr) kTab 6=⟨1422968091,3370090817,3065903408,185419416,3933021965,4065239274,4197429543,2918402655⟩:=rounds_at rg5 (show kTab 5=1508970993 by kernel_rfl) wg5 (by kernel_rfl)
theorem rg7:rounds iv (wf bgr) kTab 7=⟨2799810718,1422968091,3370090817,3065903408,504775570,3933021965,4065239274,4197429543⟩:=rounds_at rg6 (show kTab 6=2453635748 by kernel_rfl) wg6 (by kernel_rfl)
theorem rg8:rounds iv (wf bgr) kTab 8=⟨1899211513,2799810718,1422968091,3370090817,2003894109,504775570,3933021965,4065239274⟩:=rounds_at rg7 (show kTab 7=2870763221 by kernel_rfl) wg7 (by kernel_rfl)
theorem rg9:rounds iv (wf bgr) kTab 9=⟨3365814637,1899211513,2799810718,1422968091,1465881388,2003894109,504775570,3933021965⟩:=rounds_at rg8 (show kTab 8=3624381080 by kernel_rfl) wg8 (by kernel_rfl)
theorem rg10:rounds iv (wf bgr) kTab 10=⟨3093259721,3365814637,1899211513,2799810718,741351004,1465881388,2003894109,504775570⟩:=rounds_at rg9 (show kTab 9=310598401 by kernel_rfl) wg9 (by kernel_rfl)
theorem rg11:rounds iv (wf bgr) kTab 11=⟨1925170202,3093259721,3365814637,1899211513,3820281191,741351004,1465881388,2003894109⟩:=rounds_at rg10 (show kTab 10=607225278 by kernel_rfl) wg10 (by kernel_rfl)
theorem rg12:rounds iv (wf bgr) kTab 12=⟨639632390,1925170202,3093259721,3365814637,1531468932,3820281191,741351004,1465881388⟩:=rounds_at rg11 (show kTab 11=1426881987 by kernel_rfl) wg11 (by kernel_rfl)
theorem rg13:rounds iv (wf bgr) kTab 13=⟨3003041267,639632390,1925170202,3093259721,531929789,1531468932,3820281191,741351004⟩:=rounds_at rg12 (show kTab 12=1925078388 by kernel_rfl) wg12 (by kernel_rfl)
theorem rg14:rounds iv (wf bgr) kTab 14=⟨2358531305,3003041267,639632390,1925170202,3657371231,531929789,1531468932,3820281191⟩:=rounds_at rg13 (show kTab 13=2162078206 by kernel_rfl) wg13 (by kernel_rfl)
theorem rg15:rounds iv (wf bgr) kTab 15=⟨575686508,2358531305,3003041267,639632390,1495330553,3657371231,531929789,1531468932⟩:=rounds_at rg14 (show kTab 14=2614888103 by kernel_rfl) wg14 (by kernel_rfl)
theorem rg16:rounds iv (wf bgr) kTab 16=⟨1015955776,575686508,2358531305,3003041267,1290881933,1495330553,3657371231,531929789⟩:=rounds_at rg15 (show kTab 15=3248222580 by kernel_rfl) wg15 (by kernel_rfl)
theorem rg17:rounds iv (wf bgr) kTab 17=⟨4143524919,1015955776,575686508,2358531305,1094465522,1290881933,1495330553,3657371231⟩:=rounds_at rg16 (show kTab 16=3835390401 by kernel_rfl) wg16 (by kernel_rfl)
theorem rg18:rounds iv (wf bgr) kTab 18=⟨3915364458,4143524919,1015955776,575686508,3328877776,1094465522,1290881933,1495330553⟩:=rounds_at rg17 (show kTab 17=4022224774 by kernel_rfl) wg17 (by kernel_rfl)
theorem rg19:rounds iv (wf bgr) kTab 19=⟨3547221812,3915364458,4143524919,1015955776,4043202300,3328877776,1094465522,1290881933⟩:=rounds_at rg18 (show kTab 18=264347078 by kernel_rfl) wg18 (by kernel_rfl)
theorem rg20:rounds iv (wf bgr) kTab 20=⟨230118133,3547221812,3915364458,4143524919,1652853773,4043202300,3328877776,1094465522⟩:=rounds_at rg19 (show kTab 19=604807628 by kernel_rfl) wg19 (by kernel_rfl)
theorem rg21:rounds iv (wf bgr) kTab 21=⟨2186268284,230118133,3547221812,3915364458,2788897550,1652853773,4043202300,3328877776⟩:=rounds_at rg20 (show kTab 20=770255983 by kernel_rfl) wg20 (by kernel_rfl)
theorem rg22:rounds iv (wf bgr) kTab 22=⟨1993640116,2186268284,230118133,3547221812,1886838466,2788897550,1652853773,4043202300⟩:=rounds_at rg21 (show kTab 21=1249150122 by kernel_rfl) wg21 (by kernel_rfl)
theorem rg23:rounds iv (wf bgr) kTab 23=⟨1262169439,1993640116,2186268284,230118133,228420685,1886838466,2788897550,1652853773⟩:=rounds_at rg22 (show kTab 22=1555081692 by kernel_rfl) wg22 (by kernel_rfl)
theorem rg24:rounds iv (wf bgr) kTab 24=⟨3141410882,1262169439,1993640116,2186268284,840169241,228420685,1886838466,2788897550⟩:=rounds_at rg23 (show kTab 23=1996064986 by kernel_rfl) wg23 (by kernel_rfl)
theorem rg25:rounds iv (wf bgr) kTab 25=⟨1517848001,3141410882,1262169439,1993640116,221171930,840169241,228420685,1886838466⟩:=rounds_at rg24 (show kTab 24=2554220882 by kernel_rfl) wg24 (by kernel_rfl)
theorem rg26:rounds iv (wf bgr) kTab 26=⟨304683835,1517848001,3141410882,1262169439,2470414031,221171930,840169241,228420685⟩:=rounds_at rg25 (show kTab 25=2821834349 by kernel_rfl) wg25 (by kernel_rfl)
theorem rg27:rounds iv (wf bgr) kTab 27=⟨3774588913,304683835,1517848001,3141410882,1489016895,2470414031,221171930,840169241⟩:=rounds_at rg26 (show kTab 26=2952996808 by kernel_rfl) wg26 (by kernel_rfl)
theorem rg28:rounds iv (wf bgr) kTab 28=⟨1804593403,3774588913,304683835,1517848001,723933098,1489016895,2470414031,221171930⟩:=rounds_at rg27 (show kTab 27=3210313671 by kernel_rfl) wg27 (by kernel_rfl)
theorem rg29:rounds iv (wf bgr) kTab 29=⟨207827124,1804593403,3774588913,304683835,1637138059,723933098,1489016895,2470414031⟩:=rounds_at rg28 (show kTab 28=3336571891 by kernel_rfl) wg28 (by kernel_rfl)
theorem rg30:rounds iv (wf bgr) kTab 30=⟨790192558,207827124,1804593403,3774588913,3453770995,1637138059,723933098,1489016895⟩:=rounds_at rg29 (show kTab 29=3584528711 by kernel_rfl) wg29 (by kernel_rfl)
theorem rg31:rounds iv (wf bgr) kTab 31=⟨4418159,790192558,207827124,1804593403,3473021318,3453770995,1637138059,723933098⟩:=rounds_at rg30 (show kTab 30=113926993 by kernel_rfl) wg30 (by kernel_rfl)
theorem rg32:rounds iv (wf bgr) kTab 32=⟨267308018,4418159,790192558,207827124,3497652158,3473021318,3453770995,1637138059⟩:=rounds_at rg31 (show kTab 31=338241895 by kernel_rfl) wg31 (by kernel_rfl)
theorem rg33:rounds iv (wf bgr) kTab 33=⟨2756342324,267308018,4418159,790192558,975057221,3497652158,3473021318,3453770995⟩:=rounds_at rg32 (show kTab 32=666307205 by kernel_rfl) wg32 (by kernel_rfl)
theorem rg34:rounds iv (wf bgr) kTab 34=⟨38388289,2756342324,267308018,4418159,2610515242,975057221,3497652158,3473021318⟩:=rounds_at rg33 (show kTab 33=773529912 by kernel_rfl) wg33 (by kernel_rfl)
theorem rg35:rounds iv (wf bgr) kTab 35=⟨2866119168,38388289,2756342324,267308018,792380200,2610515242,975057221,3497652158⟩:=rounds_at rg34 (show kTab 34=1294757372 by kernel_rfl) wg34 (by kernel_rfl)
theorem rg36:rounds iv (wf bgr) kTab 36=⟨3883016565,2866119168,38388289,2756342324,3898537696,792380200,2610515242,975057221⟩:=rounds_at rg35 (show kTab 35=1396182291 by kernel_rfl) wg35 (by kernel_rfl)
theorem rg37:rounds iv (wf bgr) kTab 37=⟨4112757436,3883016565,2866119168,38388289,1009139294,3898537696,792380200,2610515242⟩:=rounds_at rg36 (show kTab 36=1695183700 by kernel_rfl) wg36 (by kernel_rfl)
theorem rg38:rounds iv (wf bgr) kTab 38=⟨1188593675,4112757436,3883016565,2866119168,994634162,1009139294,3898537696,792380200⟩:=rounds_at rg37 (show kTab 37=1986661051 by kernel_rfl) wg37 (by kernel_rfl)
theorem rg39:rounds iv (wf bgr) kTab 39=⟨2297800622,1188593675,4112757436,3883016565,2557234580,994634162,1009139294,3898537696⟩:=rounds_at rg38 (show kTab 38=2177026350 by kernel_rfl) wg38 (by kernel_rfl)
theorem rg40:rounds iv (wf bgr) kTab 40=⟨2611923344,2297800622,1188593675,4112757436,1951904754,2557234580,994634162,1009139294⟩:=rounds_at rg39 (show kTab 39=2456956037 by kernel_rfl) wg39 (by kernel_rfl)
theorem rg41:rounds iv (wf bgr) kTab 41=⟨3983770346,2611923344,2297800622,1188593675,2253489824,1951904754,2557234580,994634162⟩:=rounds_at rg40 (show kTab 40=2730485921 by kernel_rfl) wg40 (by kernel_rfl)
theorem rg42:rounds iv (wf bgr) kTab 42=⟨1436782,3983770346,2611923344,2297800622,1526122556,2253489824,1951904754,2557234580⟩:=rounds_at rg41 (show kTab 41=2820302411 by kernel_rfl) wg41 (by kernel_rfl)
theorem rg43:rounds iv (wf bgr) kTab 43=⟨3550778174,1436782,3983770346,2611923344,513650254,1526122556,2253489824,1951904754⟩:=rounds_at rg42 (show kTab 42=3259730800 by kernel_rfl) wg42 (by kernel_rfl)
theorem rg44:rounds iv (wf bgr) kTab 44=⟨4268864469,3550778174,1436782,3983770346,429373522,513650254,1526122556,2253489824⟩:=rounds_at rg43 (show kTab 43=3345764771 by kernel_rfl) wg43 (by kernel_rfl)
theorem rg45:rounds iv (wf bgr) kTab 45=⟨3711481407,4268864469,3550778174,1436782,3497639210,429373522,513650254,1526122556⟩:=rounds_at rg44 (show kTab 44=3516065817 by kernel_rfl) wg44 (by kernel_rfl)
theorem rg46:rounds iv (wf bgr) kTab 46=⟨1160899978,3711481407,4268864469,3550778174,3249466235,3497639210,429373522,513650254⟩:=rounds_at rg45 (show kTab 45=3600352804 by kernel_rfl) wg45 (by kernel_rfl)
theorem rg47:rounds iv (wf bgr) kTab 47=⟨3721369680,1160899978,3711481407,4268864469,2577004534,3249466235,3497639210,429373522⟩:=rounds_at rg46 (show kTab 46=4094571909 by kernel_rfl) wg46 (by kernel_rfl)
theorem rg48:rounds iv (wf bgr) kTab 48=⟨2075183683,3721369680,1160899978,3711481407,3511973599,2577004534,3249466235,3497639210⟩:=rounds_at rg47 (show kTab 47=275423344 by kernel_rfl) wg47 (by kernel_rfl)
theorem rg49:rounds iv (wf bgr) kTab 49=⟨3387532753,2075183683,3721369680,1160899978,4187074774,3511973599,2577004534,3249466235⟩:=rounds_at rg48 (show kTab 48=430227734 by kernel_rfl) wg48 (by kernel_rfl)
theorem rg50:rounds iv (wf bgr) kTab 50=⟨278252649,3387532753,2075183683,3721369680,2172309636,4187074774,3511973599,2577004534⟩:=rounds_at rg49 (show kTab 49=506948616 by kernel_rfl) wg49 (by kernel_rfl)
theorem rg51:rounds iv (wf bgr) kTab 51=⟨1931468947,278252649,3387532753,2075183683,2262915244,2172309636,4187074774,3511973599⟩:=rounds_at rg50 (show kTab 50=659060556 by kernel_rfl) wg50 (by kernel_rfl)
theorem rg52:rounds iv (wf bgr) kTab 52=⟨310877002,1931468947,278252649,3387532753,2495370149,2262915244,2172309636,4187074774⟩:=rounds_at rg51 (show kTab 51=883997877 by kernel_rfl) wg51 (by kernel_rfl)
theorem rg53:rounds iv (wf bgr) kTab 53=⟨3114773515,310877002,1931468947,278252649,811413229,2495370149,2262915244,2172309636⟩:=rounds_at rg52 (show kTab 52=958139571 by kernel_rfl) wg52 (by kernel_rfl)
theorem rg54:rounds iv (wf bgr) kTab 54=⟨1054192414,3114773515,310877002,1931468947,190828195,811413229,2495370149,2262915244⟩:=rounds_at rg53 (show kTab 53=1322822218 by kernel_rfl) wg53 (by kernel_rfl)
theorem rg55:rounds iv (wf bgr) kTab 55=⟨910597554,1054192414,3114773515,310877002,760602794,190828195,811413229,2495370149⟩:=rounds_at rg54 (show kTab 54=1537002063 by kernel_rfl) wg54 (by kernel_rfl)
theorem rg56:rounds iv (wf bgr) kTab 56=⟨3213535570,910597554,1054192414,3114773515,416524801,760602794,190828195,811413229⟩:=rounds_at rg55 (show kTab 55=1747873779 by kernel_rfl) wg55 (by kernel_rfl)
theorem rg57:rounds iv (wf bgr) kTab 57=⟨3844376159,3213535570,910597554,1054192414,2419285081,416524801,760602794,190828195⟩:=rounds_at rg56 (show kTab 56=1955562222 by kernel_rfl) wg56 (by kernel_rfl)
theorem rg58:rounds iv (wf bgr) kTab 58=⟨2395999183,3844376159,3213535570,910597554,3169827444,2419285081,416524801,760602794⟩:=rounds_at rg57 (show kTab 57=2024104815 by kernel_rfl) wg57 (by kernel_rfl)
theorem rg59:rounds iv (wf bgr) kTab 59=⟨3589611270,2395999183,3844376159,3213535570,1590945553,3169827444,2419285081,416524801⟩:=rounds_at rg58 (show kTab 58=2227730452 by kernel_rfl) wg58 (by kernel_rfl)
theorem rg60:rounds iv (wf bgr) kTab 60=⟨3238948289,3589611270,2395999183,3844376159,560796806,1590945553,3169827444,2419285081⟩:=rounds_at rg59 (show kTab 59=2361852424 by kernel_rfl) wg59 (by kernel_rfl)
theorem rg61:rounds iv (wf bgr) kTab 61=⟨3865706718,3238948289,3589611270,2395999183,3720340335,560796806,1590945553,3169827444⟩:=rounds_at rg60 (show kTab 60=2428436474 by kernel_rfl) wg60 (by kernel_rfl)
theorem rg62:rounds iv (wf bgr) kTab 62=⟨2859303090,3865706718,3238948289,3589611270,1549841853,3720340335,560796806,1590945553⟩:=rounds_at rg61 (show kTab 61=2756734187 by kernel_rfl) wg61 (by kernel_rfl)
theorem rg63:rounds iv (wf bgr) kTab 63=⟨1799544637,2859303090,3865706718,3238948289,1170015112,1549841853,3720340335,560796806⟩:=rounds_at rg62 (show kTab 62=3204031479 by kernel_rfl) wg62 (by kernel_rfl)
theorem rg64:rounds iv (wf bgr) kTab 64=⟨1346216523,1799544637,2859303090,3865706718,2124052186,1170015112,1549841853,3720340335⟩:=rounds_at rg63 (show kTab 63=3329325298 by kernel_rfl) wg63 (by kernel_rfl)
theorem pad_green:(padB green).length=64:=by kernel_rfl
theorem nb_green:nb green=1:=by rw[nb,pad_green]
theorem hash_green:hashTo kTab green 1=⟨3125250226,648711618,3873207332,2344220184,3483945305,3770838036,2078576488,966832264⟩:=by
 rw[hashTo,hashTo,show rounds iv (wf (blk green 0)) kTab 64=_ from rg64]
 kernel_rfl
theorem short_green:short kTab green=[98,97,52,55,56,56,98,50,50,54,97,97,56,100,99,50]:=by
 rw[short,nb_green,hash_green]
 kernel_rfl
section
open Go.RowKit
open Hv (S Dk)
structure Base (w:World):Prop where
 size:12≤w.heap.size
 mx:∃ m,w.cell? ⟨3,0,none⟩=some (.int .i64 m)
 rounds:∀ i:Nat,i<64→w.cell? ⟨4,i,none⟩=some (.int .u32 (kTab i))
 pow:Lib.TabIs Tryz.prog w "internal/strconv.uint64pow10" .u64 Lib.pow10Tab
theorem Base.of {w w':World} (h:Base w) (hs:w.heap.size≤w'.heap.size) (hb:∀ k,k<12→w'.heap[k]? = w.heap[k]?):Base w':=by
 refine ⟨Nat.le_trans h.size hs,?_,fun i hi => ?_,?_⟩
 · obtain ⟨m,hm⟩:=h.mx
   exact ⟨m,(World.cell?_of_block (a:=⟨3,0,none⟩) (hb _ (by decide))).trans hm⟩
 · exact (World.cell?_of_block (a:=⟨4,i,none⟩) (hb 4 (by decide))).trans (h.rounds i hi)
 · have h2:=h.pow
   have hg:Tryz.prog.globalNamed "internal/strconv.uint64pow10" = some 5:=by kernel_rfl
   unfold Lib.TabIs World.var? at h2 ⊢
   rw[hg] at h2 ⊢
   simp only[Option.bind_some] at h2 ⊢
   rw[hb _ (by decide)]
   exact h2
theorem Base.below {B:Nat} {w w':World} (h:Base w) (hb:Below B w w') (hB:12≤B):Base w':=h.of hb.size fun k hk=>hb.block k (by omega)
theorem Base.far {B:Nat} {C:Nat→Prop} {w w':World} (h:Base w) (hf:Far B C w w') (hB:12≤B) (hC:∀ k,C k→12≤k):Base w':=h.of hf.size fun k hk=>hf.block k (by omega) (fun q=>by have:=hC k q;omega)
theorem Base.alloc {w:World} (h:Base w) (o:Obj):Base (w.alloc o):=h.below ((Below.refl _ w).alloc (Nat.le_refl _) o) h.size
theorem Base.drew {w:World} (h:Base w):Base w.drew:=h.below ((Below.refl w.heap.size w).drew) h.size
theorem grow_below (w:World) (k:Nat) (os:Array Obj):Below w.heap.size w (Sort.grow (w.drewN k) os):=by
 refine ⟨rfl,rfl,rfl,?_,fun i hi => ?_⟩
 · show w.heap.size≤(w.heap++os).size
   simp
 · show (w.heap++os)[i]? = w.heap[i]?
   exact Array.getElem?_append_left hi
theorem itoa_any (n:Int) (h0 : -9223372036854775808≤n) (h1:n≤9223372036854775807) (w:World) (hb:Base w) :
   Calls Tryz.prog 76 #[.int .i64 n] w fun e w'=>e = .returned (.string ⟨(Lib.itoa n).toArray⟩)∧Below w.heap.size w w':=by
 refine (Tryz.strconv_Itoa n h0 h1 w hb.pow).mono ?_
 rintro e w' ⟨rfl,k,os,rfl⟩
 exact ⟨rfl,grow_below w k os⟩
theorem sector_words (n:Nat) (hn:n≤1000000) (w:World) (hb:Base w) :
   Calls Tryz.prog 149 #[.int .i64 n] w fun e w'=>∃ x:S,e = .returned (.string ⟨x.toArray⟩)∧Below w.heap.size w w':=by
 have HB:=hide hb
 clear hb
 go_enter Tryz.func149,Tryz.ntmps149
 go_wp2_with fail
 refine (itoa_any n (by omega) (by omega) w HB.out).mono ?_
 rintro e w1 ⟨rfl,hb1⟩
 have HB1:=hide hb1
 have hl:=Lib.itoa_length_le n (by omega) (by omega)
 obtain ⟨z,hz⟩:∃ z,Lib.itoa n=z:=⟨_,rfl⟩
 rw[hz] at hl ⊢
 clear hb1 hz
 go_wp2_with fail
 go_ret
 exact ⟨_,rfl,HB1.out⟩
def padS (x:S):S:=x++List.replicate (256-x.length) 0
theorem repeat_nought:∀ c:Nat,Lib.repeatL [0] c=List.replicate c 0
 | 0=>rfl
 | c+1=>by rw[Lib.repeatL,repeat_nought c];rfl
theorem pad_bytes (x:S):((⟨x.toArray⟩:ByteArray)++⟨Array.replicate (256-x.length) 0⟩)=⟨(padS x).toArray⟩:=by
 apply bytes_ext
 simp[padS,ByteArray.data_append]
theorem noughts (c:Nat) (hc:c≤256) (w:World):Calls Tryz.prog 193 #[.string ⟨#[0]⟩, .int .i64 c] w fun e w'=>e = .returned (.string ⟨(List.replicate c (0:UInt8)).toArray⟩)∧Below w.heap.size w w':=by
 refine (Tryz.strings_Repeat ⟨#[0]⟩ c w (by omega) (by show 1*c≤_;omega)).mono ?_
 rintro e w' ⟨rfl,hb⟩
 have:Lib.repeatL (ByteArray.mk #[0]).data.toList c=List.replicate c 0:=repeat_nought c
 rw[this]
 exact ⟨rfl,hb⟩
theorem dev_write1 {C:Nat→Prop} {db m a b r n:Nat} {d:Dk} (x:S) (hn:n<d.now.length) (hmb:(d.may.getD n []).length≤1000000) (hfew:d.wr+1<4611686018427387904) (w:World) (h:DkAt C db d w)
   (ha:w.heap[a]? = some (.cells (devV db m) 110 (0,0))) (hb:w.heap[b]? = some (.cells #[.int .i64 n] 3 (0,0))) (hr:w.heap[r]? = some (.cells #[.string ⟨x.toArray⟩] 9 (0,0))) :
   Calls Tryz.prog 194 #[.pointer (some ⟨a,0,none⟩), .pointer (some ⟨b,0,none⟩), .pointer (some ⟨r,0,none⟩)] w fun e w'=>e = .returned (.int .i64 0)∧∃ C',DkAt C' db (d.write n x) w'∧Far w.heap.size C w w'∧∀ k,C' k→C k∨w.heap.size≤k:=by
 have HD:=hide h
 have a0:=(row_cell ha 0).trans (show _=some (.iface 23 (.pointer (some ⟨db,0,none⟩))) from rfl)
 have b0:=(row_cell hb 0).trans (show _=some (.int .i64 n) from rfl)
 have r0:=(row_cell hr 0).trans (show _=some (.string ⟨x.toArray⟩) from rfl)
 have hm:=meth_write db
 clear h ha hb hr
 go_enter Tryz.func194,Tryz.ntmps194
 go_wp2_with (go_at_call 338;refine (disk_write n hn x hmb hfew _ HD.out).mono ?_;rintro e w1 ⟨C',rfl,hd1,hf1,hc1⟩;have HD1:=hide hd1;have HF1:=hide hf1;have HC1:=hide hc1;clear hd1 hf1 hc1)
 go_ret
 exact ⟨rfl,_,HD1.out,HF1.out,HC1.out⟩
theorem dev_write {C:Nat→Prop} {db m n:Nat} {d:Dk} (x:S) (hx:x.length≤256) (hn:n<d.now.length) (hn2:n≤1000000) (hmb:(d.may.getD n []).length≤1000000) (hfew:d.wr+1<4611686018427387904) (w:World) (h:DkAt C db d w) (hbase:Base w) (hCG:∀ k,C k→12≤k) :
   Calls Tryz.prog 140 #[.agg (devV db m), .int .i64 n, .string ⟨x.toArray⟩] w fun e w'=>e = .returned .nilIface∧∃ C',DkAt C' db (d.write n (padS x)) w'∧Far w.heap.size C w w'∧∀ k,C' k→C k∨w.heap.size≤k:=by
 have HD:=hide h
 have HBs:=hide hbase
 have HCG:=hide hCG
 have e1:(256:Int)-(x.length:Int)=((256-x.length:Nat):Int):=by omega
 have hlt:=hide h.lt
 clear h hbase hCG
 go_enter Tryz.func140,Tryz.ntmps140
 go_wp2_with fail
 refine (noughts (256-x.length) (by omega) _).mono ?_
 rintro e w1 ⟨rfl,hb1⟩
 have ha:=(hb1.block w.heap.size (by simp;omega)).trans ((Below.heap_alloc _ _ _ (by simp)).trans (heap_alloc_new w (.cells (devV db m) 110)))
 have hb:=(hb1.block (w.heap.size+1) (by simp)).trans (show ((w.alloc (.cells (devV db m) 110)).alloc (.cells #[.int .i64 n] 3)).heap[w.heap.size+1]? = some (.cells #[.int .i64 n] 3 (0,0)) by
   have:=heap_alloc_new (w.alloc (.cells (devV db m) 110)) (.cells #[.int .i64 n] 3)
   simpa using this)
 have hs1:w.heap.size+2≤w1.heap.size:=by have:=hb1.size;simp at this;omega
 have HF1:=hide (((((Far.refl w.heap.size C w).alloc (Nat.le_refl _) (.cells (devV db m) 110)).alloc (by simp) (.cells #[.int .i64 n] 3))).below hb1 (by simp;omega))
 have HD1:=hide (((HD.out.alloc (.cells (devV db m) 110)).alloc (.cells #[.int .i64 n] 3)).below hb1)
 have HBs1:=hide (((HBs.out.alloc (.cells (devV db m) 110)).alloc (.cells #[.int .i64 n] 3)).below hb1 (by simp;have:=HBs.out.size;omega))
 have hl:x.length+(256-x.length)=256:=by omega
 clear hb1
 go_wp2_with fail
 rw[pad_bytes]
 have hr:=heap_alloc_new w1 (.cells #[.string ⟨(padS x).toArray⟩] 9)
 have ha2:=(Below.heap_alloc w1 (.cells #[.string ⟨(padS x).toArray⟩] 9) w.heap.size (by omega)).trans ha
 have hb2:=(Below.heap_alloc w1 (.cells #[.string ⟨(padS x).toArray⟩] 9) (w.heap.size+1) (by omega)).trans hb
 refine (try_ok 194 _ _ _ enters_write1 [87,114,105,116,101] _ _ (dev_write1 (padS x) hn hmb hfew _ (HD1.out.alloc _) ha2 hb2 hr)).mono ?_
 rintro e w4 ⟨rfl,C',hd4,hf4,hc4⟩
 have b4:=(row_cell ((hf4.block (w.heap.size+1) (by simp;omega) (fun q=>by have:=hlt.out _ q;omega)).trans hb2) 0).trans (show _=some (.int .i64 n) from rfl)
 have hs4:=hf4.size
 simp at hs4
 have HF4:=hide ((HF1.out.alloc (by omega) (.cells #[.string ⟨(padS x).toArray⟩] 9)).next hf4 (by simp;omega) (fun k _ hc=>hc))
 have HD4:=hide hd4
 have HC4:=hide (show ∀ k,C' k→C k∨w.heap.size≤k from fun k hk=>(hc4 k hk).imp id (fun q=>by simp at q;omega))
 have HBs4:=hide ((HBs1.out.alloc (.cells #[.string ⟨(padS x).toArray⟩] 9)).far hf4 (by simp;have:=HBs1.out.size;omega) HCG.out)
 clear ha hb hr ha2 hb2 hd4 hf4 hc4
 go_wp2_with fail
 refine (sector_words n hn2 _ HBs4.out).mono ?_
 rintro e w5 ⟨z,rfl,hb5⟩
 have HB5:=hide hb5
 clear hb5
 go_wp2_with fail
 refine (wrap_nil z _).mono ?_
 rintro e w6 ⟨rfl,rfl⟩
 go_wp2_with fail
 go_ret
 exact ⟨rfl,C',HD4.out.below HB5.out,HF4.out.below HB5.out (by omega),HC4.out⟩
theorem try_flush {C:Nat→Prop} {db:Nat} {d:Dk} (nm:S) (w:World) (h:DkAt C db d w) :
   Calls Tryz.prog 147 #[.string ⟨nm.toArray⟩, .func (.method "Flush") #[.iface 23 (.pointer (some ⟨db,0,none⟩))] #[]] w fun e w'=>e = .returned .nilIface∧DkAt C db d.flush w'∧Far w.heap.size C w w':=by
 have HD:=hide h
 have hm:=meth_flush db
 clear h
 go_enter Tryz.func147,Tryz.ntmps147
 go_wp2_with fail
 refine (disk_flush w HD.out).mono ?_
 rintro e w1 ⟨rfl,hd1,hf1⟩
 have HD1:=hide hd1;have HF1:=hide hf1
 clear hd1 hf1
 go_wp2_with fail
 go_loop [5,6] (fun y i=>y = .int .i64 0∧i = .int .i64 0) (fun _ _=>0)
 case atStart=>exact ⟨rfl,rfl⟩
 case round =>
   obtain ⟨rfl,rfl⟩:=hrel
   go_wp2_with fail
   go_ret
   exact ⟨rfl,HD1.out,HF1.out⟩
theorem dev_flush {C:Nat→Prop} {db m:Nat} {d:Dk} (w:World) (h:DkAt C db d w) :
   Calls Tryz.prog 83 #[.agg (devV db m)] w fun e w'=>e = .returned .nilIface∧DkAt C db d.flush w'∧Far w.heap.size C w w':=by
 have HD:=hide h
 clear h
 unfold devV
 go_enter Tryz.func83,Tryz.ntmps83
 go_wp2_with fail
 refine (try_flush [70,108,117,115,104] _ (HD.out.alloc _)).mono ?_
 rintro e w1 ⟨rfl,hd1,hf1⟩
 have HD1:=hide hd1;have HF1:=hide (((Far.refl w.heap.size C w).alloc (Nat.le_refl _) (.cells (devV db m) 110)).next hf1 (by simp) (fun k _ hc=>hc))
 clear hd1 hf1
 go_wp2_with fail
 go_ret
 exact ⟨rfl,HD1.out,HF1.out⟩
def rootS (a b c:Nat) (h:S):S:=[104,97,118,101,110,32,115,116,111,114,101,32,49,10]++(Lib.itoa a++([32]++(Lib.itoa b++([32]++(Lib.itoa c++([32]++h))))))++[10]
def rootV (a b c:Nat) (h:S):Array Value := #[.int .i64 a, .int .i64 b, .int .i64 c, .string ⟨h.toArray⟩]
theorem rootOf_any (half:Nat) (x:S) (hx:x.length≤1000000) (w:World) (hb:Base w) :
   Calls Tryz.prog 74 #[.int .i64 half, .string ⟨x.toArray⟩] w fun e w'=>e = .returned (.agg (rootV half x.length 0 (short kTab x)))∧Below w.heap.size w w':=by
 have HB:=hide hb
 clear hb
 go_enter Tryz.func74,Tryz.ntmps74
 go_wp2_with fail
 have hB1:=HB.out.alloc (.cells #[.int .i64 0, .int .i64 0, .int .i64 0, .string ⟨#[]⟩] 146)
 refine (short_any x hx kTab _ (by have:=hB1.size;omega) hB1.rounds).mono ?_
 rintro e w1 ⟨rfl,hb1⟩
 have hrow:=(hb1.block w.heap.size (by simp)).trans (heap_alloc_new w (.cells #[.int .i64 0, .int .i64 0, .int .i64 0, .string ⟨#[]⟩] 146))
 have HB1:=hide (((Below.refl w.heap.size w).alloc (Nat.le_refl _) (.cells #[.int .i64 0, .int .i64 0, .int .i64 0, .string ⟨#[]⟩] 146)).trans (hb1.mono (by simp)))
 have c0:=(row_cell hrow 0).trans (show _=some (.int .i64 0) from rfl)
 have c1:=(row_cell hrow 1).trans (show _=some (.int .i64 0) from rfl)
 have c2:=(row_cell hrow 2).trans (show _=some (.int .i64 0) from rfl)
 have c3:=(row_cell hrow 3).trans (show _=some (.string ⟨#[]⟩) from rfl)
 have f0:=row_free hrow 0
 have f1:=row_free hrow 1
 have f2:=row_free hrow 2
 have f3:=row_free hrow 3
 obtain ⟨z,hz⟩:∃ z,short kTab x=z:=⟨_,rfl⟩
 have hR4:=heap_setCell_same _ w.heap.size 3 _ _ (.string ⟨z.toArray⟩) (heap_setCell_same _ w.heap.size 2 _ _ (.int .i64 0) (heap_setCell_same _ w.heap.size 1 _ _ (.int .i64 x.length) (heap_setCell_same _ w.heap.size 0 _ _ (.int .i64 half) hrow)))
 have q0:=(row_cell hR4 0).trans (show _=some (.int .i64 half) from rfl)
 have q1:=(row_cell hR4 1).trans (show _=some (.int .i64 x.length) from rfl)
 have q2:=(row_cell hR4 2).trans (show _=some (.int .i64 0) from rfl)
 have q3:=(row_cell hR4 3).trans (show _=some (.string ⟨z.toArray⟩) from rfl)
 have HZ:=hide hz
 rw[hz]
 clear hb1 hrow hB1 hz hR4
 go_wp2_with fail
 refine bodyPost_ret (v := .agg #[.int .i64 half, .int .i64 x.length, .int .i64 0, .string ⟨z.toArray⟩]) (by simp[results,Tryz.results74,go_sem,q0,q1,q2,q3]) rfl ⟨by rw[HZ.out];rfl,?_⟩
 exact (((HB1.out.setCell (Nat.le_refl _) _).setCell (Nat.le_refl _) _).setCell (Nat.le_refl _) _).setCell (Nat.le_refl _) _
theorem join_four (x y z h:S) (hx:x.length≤21) (hy:y.length≤21) (hz:z.length≤21) (hh:h.length≤100) (w:World) :
   Calls Tryz.prog 196 #[.slice (some ⟨w.heap.size,0,none⟩) 4 4, .string ⟨#[32]⟩] (w.alloc (.cells #[.string ⟨x.toArray⟩, .string ⟨y.toArray⟩, .string ⟨z.toArray⟩, .string ⟨h.toArray⟩] 9)) fun e w'=>∃ J:S,x++([32]++(y++([32]++(z++([32]++h)))))=J∧J.length≤200∧e = .returned (.string ⟨J.toArray⟩)∧Below w.heap.size w w':=by
 have hrow:=heap_alloc_new w (.cells #[.string ⟨x.toArray⟩, .string ⟨y.toArray⟩, .string ⟨z.toArray⟩, .string ⟨h.toArray⟩] 9)
 have hJ:Lib.join ([⟨x.toArray⟩,⟨y.toArray⟩,⟨z.toArray⟩,⟨h.toArray⟩].map (fun b:ByteArray=>b.data.toList)) [32]=x++([32]++(y++([32]++(z++([32]++h))))):=by
   simp[Lib.join]
 refine (Tryz.strings_Join w.heap.size 0 4 [⟨x.toArray⟩,⟨y.toArray⟩,⟨z.toArray⟩,⟨h.toArray⟩] ⟨#[32]⟩ _ (fun j v hv => ?_) (by simp) (by simp) (by simp) ?_).mono ?_
 · rcases (show j=0∨j=1∨j=2∨j=3 by have:=(List.getElem?_eq_some_iff.1 hv).1;simp at this;omega) with rfl | rfl | rfl | rfl<;>simp at hv<;>subst hv
   · exact (row_cell hrow 0).trans rfl
   · exact (row_cell hrow 1).trans rfl
   · exact (row_cell hrow 2).trans rfl
   · exact (row_cell hrow 3).trans rfl
 · show (Lib.join _ [32]).length≤_
   rw[hJ]
   simp;omega
 · rintro e w' ⟨rfl,hb⟩
   refine ⟨_,rfl,by simp;omega,?_,((Below.refl w.heap.size w).alloc (Nat.le_refl _) _).trans (hb.mono (by simp))⟩
   rw[show Lib.join _ (ByteArray.mk #[32]).data.toList=_ from hJ]
theorem root_of {w:World} {B a b c:Nat} {h:S} (hr:w.heap[B]? = some (.cells (rootV a b c h) 146 (0,0))):w.cell? ⟨B,0,none⟩=some (.int .i64 a)∧w.cell? ⟨B,1,none⟩=some (.int .i64 b)∧w.cell? ⟨B,2,none⟩=some (.int .i64 c)∧w.cell? ⟨B,3,none⟩=some (.string ⟨h.toArray⟩) :=
 ⟨(row_cell hr 0).trans rfl,(row_cell hr 1).trans rfl,(row_cell hr 2).trans rfl,(row_cell hr 3).trans rfl⟩
theorem encode_any (a b c:Nat) (h:S) (ha:a≤4000000000) (hb:b≤4000000000) (hc:c≤4000000000) (hh:h.length≤100) (w:World) (hbs:Base w) :
   Calls Tryz.prog 142 #[.agg (rootV a b c h)] w fun e w'=>e = .returned (.string ⟨(rootS a b c h).toArray⟩)∧Below w.heap.size w w':=by
 have HBs:=hide hbs
 clear hbs
 go_enter Tryz.func142,Tryz.ntmps142
 go_wp2_with fail
 have hrow:=heap_alloc_new w (.cells (rootV a b c h) 146)
 have HB0:=hide ((Below.refl w.heap.size w).alloc (Nat.le_refl _) (.cells (rootV a b c h) 146))
 have HBs0:=hide (HBs.out.alloc (.cells (rootV a b c h) 146))
 obtain ⟨B,hB⟩:∃ B,w.heap.size=B:=⟨_,rfl⟩
 obtain ⟨u,hu⟩:∃ u,w.alloc (.cells (rootV a b c h) 146)=u:=⟨_,rfl⟩
 have hBu:B<u.heap.size:=by rw[← hu,← hB];simp
 rw[hu] at hrow HB0 HBs0 ⊢
 rw[hB] at hrow ⊢
 have c0:=(row_cell hrow 0).trans (show _=some (.int .i64 a) from rfl)
 have c1:=(row_cell hrow 1).trans (show _=some (.int .i64 b) from rfl)
 have c2:=(row_cell hrow 2).trans (show _=some (.int .i64 c) from rfl)
 have c3:=(row_cell hrow 3).trans (show _=some (.string ⟨h.toArray⟩) from rfl)
 have la:=Lib.itoa_length_le a (by omega) (by omega)
 have lb:=Lib.itoa_length_le b (by omega) (by omega)
 have lc:=Lib.itoa_length_le c (by omega) (by omega)
 have HX:=hide (show ∀ x y z:S,Lib.itoa a=x→Lib.itoa b=y→Lib.itoa c=z→rootS a b c h=[104,97,118,101,110,32,115,116,111,114,101,32,49,10]++(x++([32]++(y++([32]++(z++([32]++h))))))++[10] from fun x y z e1 e2 e3=>by subst e1;subst e2;subst e3;rfl)
 have H0:=hide hrow
 clear hu hrow HBs
 go_region_held3 (fun w'=>w'.cell? ⟨B,0,none⟩=some (.int .i64 a)∧w'.cell? ⟨B,1,none⟩=some (.int .i64 b)∧w'.cell? ⟨B,2,none⟩=some (.int .i64 c)∧w'.cell? ⟨B,3,none⟩=some (.string ⟨h.toArray⟩))
   (first | assumption | exact root_of H5.out | exact root_of H4.out | exact root_of H3.out | exact root_of H2.out | exact root_of H1.out | exact ⟨c0,c1,c2,c3⟩ | simp[go_sem, *])
   (first
     | (go_at_call_of 76 (Value.int .i64 a);refine (itoa_any a (by omega) (by omega) _ (HBs0.out.drew)).mono ?_;rintro e w1 ⟨rfl,hb1⟩;have H1:=hide ((hb1.block B (by simpa using hBu)).trans H0.out);have HBs1:=hide (HBs0.out.drew.below hb1 (by have:=HBs0.out.size;simpa using this));have HB1:=hide (HB0.out.drew.trans (hb1.mono HB0.out.size));have hB1:B<w1.heap.size:=lt_of_block H1.out;clear hb1)
     | (go_at_call_of 76 (Value.int .i64 b);refine (itoa_any b (by omega) (by omega) _ (HBs1.out)).mono ?_;rintro e w2 ⟨rfl,hb2⟩;have H2:=hide ((hb2.block B hB1).trans H1.out);have HBs2:=hide (HBs1.out.below hb2 HBs1.out.size);have HB2:=hide (HB1.out.trans (hb2.mono HB1.out.size));have hB2:B<w2.heap.size:=lt_of_block H2.out;clear hb2)
     | (go_at_call_of 76 (Value.int .i64 c);refine (itoa_any c (by omega) (by omega) _ (HBs2.out)).mono ?_;rintro e w3 ⟨rfl,hb3⟩;have H3:=hide ((hb3.block B hB2).trans H2.out);have HB3:=hide (HB2.out.trans (hb3.mono HB2.out.size));have hB3:B<w3.heap.size:=lt_of_block H3.out;clear hb3)
     | (go_at_call 196;refine (join_four (Lib.itoa a) (Lib.itoa b) (Lib.itoa c) h la lb lc hh w3).mono ?_;rintro e w4 ⟨J,hJ,lJ,rfl,hb4⟩;have H4:=hide ((hb4.block B hB3).trans H3.out);have HB4:=hide (HB3.out.trans (hb4.mono HB3.out.size));have HJ:=hide hJ;have j1 : ¬ 9223372036854775807<14+J.length:=(by omega);have j2 : ¬ 9223372036854775807<14+J.length+1:=(by omega);clear hb4 hJ))
 go_wp2_with fail
 go_ret
 refine ⟨?_,HB4.out⟩
 rw[HX.out _ _ _ rfl rfl rfl,← HJ.out]
 congr 2
def StoreAt (sb db n a b c:Nat) (h:S) (w:World):Prop:=w.heap[sb]? = some (.cells #[.iface 23 (.pointer (some ⟨db,0,none⟩)), .int .i64 n, .int .i64 a, .int .i64 b, .int .i64 c, .string ⟨h.toArray⟩] 148 (0,0))
theorem StoreAt.kept {sb db n a b c:Nat} {h:S} {w w':World} (hs:StoreAt sb db n a b c h w) (hb:w'.heap[sb]? = w.heap[sb]?):StoreAt sb db n a b c h w':=hb.trans hs
theorem StoreAt.lt {sb db n a b c:Nat} {h:S} {w:World} (hs:StoreAt sb db n a b c h w):sb<w.heap.size:=(Array.getElem?_eq_some_iff.1 hs).1
theorem StoreAt.below {sb db n a b c:Nat} {h:S} {w w':World} (hs:StoreAt sb db n a b c h w) (hb:Below w.heap.size w w'):StoreAt sb db n a b c h w':=hs.kept (hb.block sb hs.lt)
theorem StoreAt.far {sb db n a b c:Nat} {h:S} {C:Nat→Prop} {B:Nat} {w w':World} (hs:StoreAt sb db n a b c h w) (hf:Far B C w w') (hB:w.heap.size≤B) (hC : ¬ C sb):StoreAt sb db n a b c h w':=hs.kept (hf.block sb (by have:=hs.lt;omega) hC)
theorem StoreAt.cells {sb db n a b c:Nat} {h:S} {w:World} (hs:StoreAt sb db n a b c h w):w.cell? ⟨sb,0,none⟩=some (.iface 23 (.pointer (some ⟨db,0,none⟩)))∧w.cell? ⟨sb,1,none⟩=some (.int .i64 n)∧w.cell? ⟨sb,2,none⟩=some (.int .i64 a)∧w.cell? ⟨sb,3,none⟩=some (.int .i64 b)∧w.cell? ⟨sb,4,none⟩=some (.int .i64 c)∧w.cell? ⟨sb,5,none⟩=some (.string ⟨h.toArray⟩) :=
 ⟨(row_cell hs 0).trans rfl,(row_cell hs 1).trans rfl,(row_cell hs 2).trans rfl,(row_cell hs 3).trans rfl,(row_cell hs 4).trans rfl,(row_cell hs 5).trans rfl⟩
theorem store_half (sb db n a b c:Nat) (h:S) (hn:1≤n) (hn2:n≤1000000) (w:World) (hs:StoreAt sb db n a b c h w) :
   Calls Tryz.prog 86 #[.pointer (some ⟨sb,0,none⟩)] w fun e w'=>e = .returned (.int .i64 ((n-1) / 2:Nat))∧Below w.heap.size w w':=by
 obtain ⟨c0,c1, -⟩:=hs.cells
 have e1:(n:Int)-1=((n-1:Nat):Int):=by omega
 have e2:(((n-1:Nat):Int)).tdiv 2=(((n-1) / 2:Nat):Int):=rfl
 clear hs
 go_enter Tryz.func86,Tryz.ntmps86
 go_wp2_with fail
 refine (dev_sectors db n w).mono ?_
 rintro e w1 ⟨rfl,hb1⟩
 have HB1:=hide hb1
 clear hb1
 go_wp2_with fail
 go_ret
 exact ⟨rfl,HB1.out⟩
theorem store_first (sb db n a b c half:Nat) (h:S) (hn:1≤n) (hn2:n≤1000000) (hh:half≤1) (w:World) (hs:StoreAt sb db n a b c h w) :
   Calls Tryz.prog 139 #[.pointer (some ⟨sb,0,none⟩), .int .i64 half] w fun e w'=>e = .returned (.int .i64 (1+half*((n-1) / 2):Nat))∧Below w.heap.size w w':=by
 have HS:=hide hs
 clear hs
 go_enter Tryz.func139,Tryz.ntmps139
 go_wp2_with fail
 refine (store_half sb db n a b c h hn hn2 w HS.out).mono ?_
 rintro e w1 ⟨rfl,hb1⟩
 have HB1:=hide hb1
 obtain ⟨q,hq⟩:∃ q,(n-1) / 2=q:=⟨_,rfl⟩
 have hq2:q≤1000000:=by omega
 rw[hq]
 have HQ:=hide hq
 clear hb1 hq
 rcases (show half=0∨half=1 by omega) with rfl | rfl
 · go_wp2_with fail
   go_ret
   exact ⟨by rw[HQ.out];simp,HB1.out⟩
 · go_wp2_with fail
   go_ret
   exact ⟨by rw[HQ.out];simp,HB1.out⟩
theorem rootS_len (a b c:Nat) (h:S) (ha:a≤4000000000) (hb:b≤4000000000) (hc:c≤4000000000) (hh:h.length≤100):(rootS a b c h).length≤256:=by
 have la:=Lib.itoa_length_le a (by omega) (by omega)
 have lb:=Lib.itoa_length_le b (by omega) (by omega)
 have lc:=Lib.itoa_length_le c (by omega) (by omega)
 simp[rootS]
 omega
theorem switch_any {C:Nat→Prop} {d:Dk} (sb db n a b c a' b' c':Nat) (h h':S) (ha:a'≤4000000000) (hb:b'≤4000000000) (hc:c'≤4000000000) (hh:h'.length≤100) (hn:0<d.now.length) (hmb:(d.may.getD 0 []).length≤1000000) (hfew:d.wr+1<4611686018427387904)
   (w:World) (hs:StoreAt sb db n a b c h w) (hd:DkAt C db d w) (hsC : ¬ C sb) (hbs:Base w) (hCG:∀ k,C k→12≤k) :
   Calls Tryz.prog 77 #[.pointer (some ⟨sb,0,none⟩), .agg (rootV a' b' c' h')] w fun e w'=>e = .returned .nilIface∧∃ C',DkAt C' db ((d.write 0 (padS (rootS a' b' c' h'))).flush) w'∧StoreAt sb db n a' b' c' h' w'∧Far w.heap.size (fun k=>C k∨k=sb) w w'∧∀ k,C' k→C k∨w.heap.size≤k:=by
 have HS:=hide hs;have HD:=hide hd;have HBs:=hide hbs;have HCG:=hide hCG
 have HLR:=hide (rootS_len a' b' c' h' ha hb hc hh)
 clear hs hd hbs hCG
 go_enter Tryz.func77,Tryz.ntmps77
 go_wp2_with fail
 have hrow:=heap_alloc_new w (.cells (rootV a' b' c' h') 146)
 have HF0:=hide ((Far.refl w.heap.size C w).alloc (Nat.le_refl _) (.cells (rootV a' b' c' h') 146))
 have HBs0:=hide (HBs.out.alloc (.cells (rootV a' b' c' h') 146))
 have HS0:=hide (show StoreAt sb db n a b c h (w.alloc (.cells (rootV a' b' c' h') 146)) from HS.out.below ((Below.refl w.heap.size w).alloc (Nat.le_refl _) _))
 have HD0:=hide (HD.out.alloc (.cells (rootV a' b' c' h') 146))
 have hsl:=HS.out.lt
 have hBC : ¬ C w.heap.size:=fun q=>by have:=HD.out.lt _ q;omega
 obtain ⟨B,hB⟩:∃ B,w.heap.size=B:=⟨_,rfl⟩
 obtain ⟨u,hu⟩:∃ u,w.alloc (.cells (rootV a' b' c' h') 146)=u:=⟨_,rfl⟩
 have hBu:B<u.heap.size:=by rw[← hu,← hB];simp
 have HGB:=hide HBs.out.size
 rw[hu] at hrow HF0 HBs0 HS0 HD0 ⊢
 rw[hB] at hrow HF0 hsl hBC HGB ⊢
 have H0:=hide hrow
 have c0:=root_of hrow
 obtain ⟨s0,s1, -⟩:=HS0.out.cells
 clear hu hrow HBs HS HD
 go_region_held3 (fun w'=>w'.cell? ⟨sb,0,none⟩=some (.iface 23 (.pointer (some ⟨db,0,none⟩)))∧w'.cell? ⟨sb,1,none⟩=some (.int .i64 n)∧w'.cell? ⟨B,0,none⟩=some (.int .i64 a')∧w'.cell? ⟨B,1,none⟩=some (.int .i64 b')∧w'.cell? ⟨B,2,none⟩=some (.int .i64 c')∧w'.cell? ⟨B,3,none⟩=some (.string ⟨h'.toArray⟩))
   (first | assumption | exact ⟨HS2.out.cells.1,HS2.out.cells.2.1,root_of H2.out⟩ | exact ⟨HS1.out.cells.1,HS1.out.cells.2.1,root_of H1.out⟩ | exact ⟨s0,s1,c0⟩ | simp[go_sem, *])
   (first
     | (go_at_call 142;refine (encode_any a' b' c' h' ha hb hc hh _ HBs0.out.drew).mono ?_;rintro e w1 ⟨rfl,hb1⟩;have H1:=hide ((hb1.block B (by simpa using hBu)).trans H0.out);have HS1:=hide (HS0.out.kept (hb1.block sb (by simp;omega)));have HBs1:=hide (HBs0.out.drew.below hb1 (by have:=HBs0.out.size;simpa using this));have HD1:=hide (HD0.out.drew.below hb1);have HF1:=hide (HF0.out.drew.below hb1 (by simp;omega));have hB1:B<w1.heap.size:=lt_of_block H1.out;clear hb1)
     | (go_at_call 140;refine (dev_write (m:=n) (n:=0) (rootS a' b' c' h') HLR.out hn (by omega) hmb hfew _ HD1.out HBs1.out HCG.out).mono ?_;rintro e w2 ⟨rfl,C',hd2,hf2,hc2⟩;have H2:=hide ((hf2.block B hB1 hBC).trans H1.out);have HS2:=hide (HS1.out.far hf2 (Nat.le_refl _) hsC);have HD2:=hide hd2;have HF2:=hide (HF1.out.next hf2 (by omega) (fun _ _ q=>q));have HC2:=hide (show ∀ k,C' k→C k∨B≤k from fun k hk=>(hc2 k hk).imp id (fun q=>by omega));clear hd2 hf2 hc2))
 have hC2 : ¬ C' sb:=fun q=>by
   rcases HC2.out sb q with h | h
   · exact hsC h
   · omega
 obtain ⟨p0,p1,p2,p3,p4,p5⟩:=HS2.out.cells
 have f2:=row_free HS2.out 2
 have f3:=row_free HS2.out 3
 have f4:=row_free HS2.out 4
 have f5:=row_free HS2.out 5
 have d0:=(root_of H2.out).1
 have d1:=(root_of H2.out).2.1
 have d2:=(root_of H2.out).2.2.1
 have d3:=(root_of H2.out).2.2.2
 have hS3:StoreAt sb db n a' b' c' h' ((((w2.setCell ⟨sb,2,none⟩ (.int .i64 a')).setCell ⟨sb,3,none⟩ (.int .i64 b')).setCell ⟨sb,4,none⟩ (.int .i64 c')).setCell ⟨sb,5,none⟩ (.string ⟨h'.toArray⟩)) :=
   heap_setCell_same _ sb 5 _ _ _ (heap_setCell_same _ sb 4 _ _ _ (heap_setCell_same _ sb 3 _ _ _ (heap_setCell_same _ sb 2 _ _ _ HS2.out)))
 have HD3:=hide ((((HD2.out.set sb 2 hC2 (.int .i64 a')).set sb 3 hC2 (.int .i64 b')).set sb 4 hC2 (.int .i64 c')).set sb 5 hC2 (.string ⟨h'.toArray⟩))
 have HF3:=hide (((((HF2.out.mono (C':=fun k=>C k∨k=sb) (Nat.le_refl _) (fun _ _ q => .inl q)).setCell (p:=⟨sb,2,none⟩) (.inr (.inr rfl)) (.int .i64 a')).setCell (p:=⟨sb,3,none⟩) (.inr (.inr rfl)) (.int .i64 b')).setCell (p:=⟨sb,4,none⟩) (.inr (.inr rfl)) (.int .i64 c')).setCell (p:=⟨sb,5,none⟩) (.inr (.inr rfl)) (.string ⟨h'.toArray⟩))
 have HS3:=hide hS3
 clear hS3
 have hw2:B≤w2.heap.size:=by have:=HF2.out.size;omega
 go_wp2_with fail
 refine (dev_flush (m:=n) _ HD3.out).mono ?_
 rintro e w4 ⟨rfl,hd4,hf4⟩
 have HD4:=hide hd4
 have HS4:=hide (HS3.out.far hf4 (Nat.le_refl _) hC2)
 have HF4:=hide (HF3.out.next hf4 (by simp;omega) (fun k hk q => .inl ((HC2.out k q).resolve_right (by omega))))
 clear hd4 hf4
 go_wp2_with fail
 go_ret
 rw[hB]
 exact ⟨rfl,C',HD4.out,HS4.out,HF4.out,HC2.out⟩
end
end Go.Proofs.YtialenebfcnkkaaGreatDoor
