import Derived.Test.YtmeaiaecmmglnaaGreatDoorNX3
import Derived.Test.YtmeaiaecmmglnaaGreatDoorMI
import Derived.Test.YtmeaiaecmmglnaaGreatDoorNX11
import Derived.Test.YtmeaiaecmmglnaaGreatDoorMH
import Derived.Test.YtmeaiaecmmglnaaGreatDoorNX17
import Derived.Test.YtmeaiaecmmglnaaGreatDoorNX17D
set_option linter.all false
set_option maxRecDepth 100000
set_option linter.unusedVariables false
namespace Go.Proofs.YtmeaiaecmmglnaaGreatDoor
open Go.RowKit
open Lib (hid)
theorem num17:N17:=by
 intro l w W g m c A sc point fr t al me pl sz z0 z1 z3 z5 z6 z8 z9 z10 z15 z16 z17 z19 z20 z21 z22 z23 z24 z25 z26 z27 z28 z29 z30 z31 z32 z33 z34 z35 z36 z37 z38 z39 z40 z41 z42 z43 z44 z45 z46 z47 z48 z49 z50 z51 z52 z53 z54 z55 z56 z57 z58 z59 z60 z61 z62 z63 z64 z65 z66 z67 z68 z69 z70 z71 z72 z73 z74 z75 z76 z77 z78 z79 z80 z81 z82 z83 z84 z85 z86 z87 z88 z89 z90 z91 z92 z93 z94 z95 z96 z97 z98 z99 z100 z101 z102 z103 z104 z105 z106 z107 z108 z109 z110 z111 z112 z113 z114 z115 z116 z117 z118 z119 z120 z121 z122 z123 z124 z125 z126 z127 z128 z129 z130 z131 z132 z133 z134 z135 z136 z137 z138 z139 z140 z141 z142 z143 z144 z145 z146 z147 z148 z149 z150 z151 z152 z153 z154 z155 z156 z157 z158 z159 z160 z161 z162 z163 z164 z165 z166 z167 z168 z169 z170 z171 z172 z173 z174 z175 z176 z177 z178 z179 z180 z181 z182 z183 z184 z185 z186 z187 z188 z189 z190 z191 z192 z193 z194 z195 z196 z197 z198 z199 z200 z201 z202 z203 z204 z205 z206 z207 z208 z209 z210 z211 z212 z213 z214 z215 z216 z217 z218 z219 z220 z221 z222 z223 z224 z225 z226 z227 z228 z229 z230 z231 z232 z233 z234 z235 z236 z237 z238 z239 z240 z241 z242 z243 z244 z245 z246 z247 z248 z249 z250 z251 z252 z253 z254 z255 z256 z257 z258 z259 z260 z261 z262 z263 z264 z265 z266 z267 z268 z269 z270 z271 z272 z273 z274 z275 z276 z277 z278 z279 z280 z281 z282 z283 z284 z285 z286 z287 z288 z289 z290 z291 z292 z293 z294 z295 z296 z297 z298 z299 z300 z301 z302 z303 z304 z305 z306 z307 z308 z309 z310 z311 z312 z313 z314 z315 z316 z317 z318 z319 z320 HX hm HN0 HAL hpf hts hfs has
 rcases hA:(bts al).any a64 with _ | _
 · exact num17f l w W g m c A sc point fr t al me pl sz _ _ _ _ _ _ _ _ _ _ _ _ _ _ _ _ _ _ _ _ _ _ _ _ _ _ _ _ _ _ _ _ _ _ _ _ _ _ _ _ _ _ _ _ _ _ _ _ _ _ _ _ _ _ _ _ _ _ _ _ _ _ _ _ _ _ _ _ _ _ _ _ _ _ _ _ _ _ _ _ _ _ _ _ _ _ _ _ _ _ _ _ _ _ _ _ _ _ _ _ _ _ _ _ _ _ _ _ _ _ _ _ _ _ _ _ _ _ _ _ _ _ _ _ _ _ _ _ _ _ _ _ _ _ _ _ _ _ _ _ _ _ _ _ _ _ _ _ _ _ _ _ _ _ _ _ _ _ _ _ _ _ _ _ _ _ _ _ _ _ _ _ _ _ _ _ _ _ _ _ _ _ _ _ _ _ _ _ _ _ _ _ _ _ _ _ _ _ _ _ _ _ _ _ _ _ _ _ _ _ _ _ _ _ _ _ _ _ _ _ _ _ _ _ _ _ _ _ _ _ _ _ _ _ _ _ _ _ _ _ _ _ _ _ _ _ _ _ _ _ _ _ _ _ _ _ _ _ _ _ _ _ _ _ _ _ _ _ _ _ _ _ _ _ _ _ _ _ _ _ _ _ _ _ _ _ _ _ _ _ _ _ _ _ _ _ _ _ _ _ _ _ _ _ _ _ _ _ _ _ _ _ _ HX hm HN0 HAL hpf hts hfs has hA
 · exact num17t l w W g m c A sc point fr t al me pl sz _ _ _ _ _ _ _ _ _ _ _ _ _ _ _ _ _ _ _ _ _ _ _ _ _ _ _ _ _ _ _ _ _ _ _ _ _ _ _ _ _ _ _ _ _ _ _ _ _ _ _ _ _ _ _ _ _ _ _ _ _ _ _ _ _ _ _ _ _ _ _ _ _ _ _ _ _ _ _ _ _ _ _ _ _ _ _ _ _ _ _ _ _ _ _ _ _ _ _ _ _ _ _ _ _ _ _ _ _ _ _ _ _ _ _ _ _ _ _ _ _ _ _ _ _ _ _ _ _ _ _ _ _ _ _ _ _ _ _ _ _ _ _ _ _ _ _ _ _ _ _ _ _ _ _ _ _ _ _ _ _ _ _ _ _ _ _ _ _ _ _ _ _ _ _ _ _ _ _ _ _ _ _ _ _ _ _ _ _ _ _ _ _ _ _ _ _ _ _ _ _ _ _ _ _ _ _ _ _ _ _ _ _ _ _ _ _ _ _ _ _ _ _ _ _ _ _ _ _ _ _ _ _ _ _ _ _ _ _ _ _ _ _ _ _ _ _ _ _ _ _ _ _ _ _ _ _ _ _ _ _ _ _ _ _ _ _ _ _ _ _ _ _ _ _ _ _ _ _ _ _ _ _ _ _ _ _ _ _ _ _ _ _ _ _ _ _ _ _ _ _ _ _ _ _ _ _ _ _ _ _ _ _ HX hm HN0 HAL hpf hts hfs has hA
theorem n3_all:N3:=num3 (num4 (num5 (num6 (num7 (num8 (num9 (num10 (num11 (num12 (num13 (num14 (num15 (num16 num17)))))))))))))
def Mid2 (W:World) (b:List Nat) (wv fv pv:Value) (W':World):Prop:=wv=.string (stz (upA 69 b))∧fv=.string (stz (dnA 69 b))∧pv=.bool (b.any (· == 69))∧∃ n,W'=W.drewN n
set_option maxHeartbeats 16000000 in
theorem qH4 (s:ByteArray) (w:World) (hs:s.size≤100000000):Calls Tryz.prog 12 #[.string s] w fun e w'=>
 e=.returned (.tuple #[.agg (patN (numZ (bts s)).1),.int .i64 (((numZ (bts s)).2:Nat):Int)])∧Below w.heap.size w w':=by
 have HX:=hid (RX.new w)
 have hn1:BX ((w.alloc (.cells patZ 25)).alloc (.cells patZ 25)) (w.heap.size+1) patZ 25:=by
  have:=BX.new (w.alloc (.cells patZ 25)) patZ 25
  simpa using this
 go_enter Tryz.func12,Tryz.ntmps12
 go_upto_region 2 with (first
  | (refine wpList_store_row rfl 25 _ _ rfl (w.heap.size+1) patZ rfl rfl 25 patZ hn1 (qA0 _ _ _ _ _ {} _ _ _) rfl (qA6 {}) ?_)
  | fail)
 change Code.wp _ _ _ _ (((w.alloc (.cells patZ 25)).alloc (.cells patZ 25)).setRow (w.heap.size+1) patZ)
 generalize ((w.alloc (.cells patZ 25)).alloc (.cells patZ 25)).setRow (w.heap.size+1) patZ=W0 at *
 clear hn1
 dsimp only [Act.put]
 go_cut [5,6,7] (Mid2 W0 (bts s))
 case first=>
  have HC1:=hid (fun W=>refCut_c s 69 W (by omega));generalize hp:(bts s).any (· == 69)=point at *;generalize h1:stz (upA 69 (bts s))=S1 at *;generalize h2:stz (dnA 69 (bts s))=S2 at *;have HP:=hid hp;have HS1:=hid h1;have HS2:=hid h2;clear hp h1 h2
  go_wp2_with (first
   | go_skip
   | (go_at_call 27; refine (HC1.out _).mono ?_; rintro e w1 ⟨rfl,n1,rfl⟩)
   | fail)
  go_meet
  exact ⟨by rw [HS1.out],by rw [HS2.out],by rw [HP.out],_,rfl⟩
 case rest=>
 obtain ⟨rfl,rfl,rfl,n,rfl⟩:=hcut
 have hU:bts (stz (upA 69 (bts s)))=upA 69 (bts s):=qAM (qHZ (qAP s))
 have hD:bts (stz (dnA 69 (bts s)))=dnA 69 (bts s):=qAM (dn_lt (qAP s))
 have l1:(stz (upA 69 (bts s))).size≤100000000:=by rw [qAC]; have:=qI0 69 (bts s); rw [qA1] at this; omega
 have l2:(stz (dnA 69 (bts s))).size≤100000000:=by rw [qAC]; have:=dn_len 69 (bts s); rw [qA1] at this; omega
 go_step
 refine wp_mono (c:=qBL) (n3_all (bts s) w _ w.heap.size _ _ _ (dnA 69 (bts s)) _ _ _ _ _ _ _ _ _ _ _ _ _ _ _ _ _ _ _ _ _ _ _ _ _ _ _ _ _ _ _ _ _ _ _ _ _ _ _ _ _ _ _ _ _ _ _ _ _ _ _ _ _ _ _ _ _ _ _ _ _ _ _ _ _ _ _ _ _ _ _ _ _ _ _ _ _ _ _ _ _ _ _ _ _ _ _ _ _ _ _ _ _ _ _ _ _ _ _ _ _ _ _ _ _ _ _ _ _ _ _ _ _ _ _ _ _ _ _ _ _ _ _ _ _ _ _ _ _ _ _ _ _ _ _ _ _ _ _ _ _ _ _ _ _ _ _ _ _ _ _ _ _ _ _ _ _ _ _ _ _ _ _ _ _ _ _ _ _ _ _ _ _ _ _ _ _ _ _ _ _ _ _ _ _ _ _ _ _ _ _ _ _ _ _ _ _ _ _ _ _ _ _ _ _ _ _ _ _ _ _ _ _ _ _ _ _ _ _ _ _ _ _ _ _ _ _ _ _ _ _ _ _ _ _ _ _ _ _ _ _ _ _ _ _ _ _ _ _ _ _ _ _ _ _ _ _ _ _ _ _ _ _ _ _ _ _ _ _ _ _ _ _ _ _ _ _ _ _ _ _ _ _ _ _ _ _ _ _ _ _ _ _ _ _ _ _ _ _ _ _ _ _ _ _ _ _ _ _ _ _ _ _ _ _ _ (hid (HX.out.drewN n)) (hid hD) (hid (by rw [hU]; rfl)) l1 l2) ?_
 intro e a w' h
 go_step
 exact h
end Go.Proofs.YtmeaiaecmmglnaaGreatDoor
