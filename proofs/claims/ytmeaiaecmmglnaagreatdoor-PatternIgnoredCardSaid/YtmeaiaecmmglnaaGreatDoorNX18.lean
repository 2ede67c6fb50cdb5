import Derived.Test.YtmeaiaecmmglnaaGreatDoorMG
set_option linter.all false
set_option maxRecDepth 100000
set_option linter.unusedVariables false
namespace Go.Proofs.YtmeaiaecmmglnaaGreatDoor
open Go.RowKit
open Lib (hid)
set_option maxHeartbeats 8000000 in
theorem num18 (l:List Nat) (w W:World) (g m c:Nat) (A:Option Addr) (sc:Bool) (t:ByteArray) (q:NF) (z0 z1 z3 z5 z6 z8 z9 z10 z11 z12 z15 z16 z17 z18 z19 z20 z21 z22 z23 z24 z25 z26 z27 z28 z29 z30 z31 z32 z33 z34 z35 z36 z37 z38 z39 z40 z41 z42 z43 z44 z45 z46 z47 z48 z49 z50 z51 z52 z53 z54 z55 z56 z57 z58 z59 z60 z61 z62 z63 z64 z65 z66 z67 z68 z69 z70 z71 z72 z73 z74 z75 z76 z77 z78 z79 z80 z81 z82 z83 z84 z85 z86 z87 z88 z89 z90 z91 z92 z93 z94 z95 z96 z97 z98 z99 z100 z101 z102 z103 z104 z105 z106 z107 z108 z109 z110 z111 z112 z113 z114 z115 z116 z117 z118 z119 z120 z121 z122 z123 z124 z125 z126 z127 z128 z129 z130 z131 z132 z133 z134 z135 z136 z137 z138 z139 z140 z141 z142 z143 z144 z145 z146 z147 z148 z149 z150 z151 z152 z153 z154 z155 z156 z157 z158 z159 z160 z161 z162 z163 z164 z165 z166 z167 z168 z169 z170 z171 z172 z173 z174 z175 z176 z177 z178 z179 z180 z181 z182 z183 z184 z185 z186 z187 z188 z189 z190 z191 z192 z193 z194 z195 z196 z197 z198 z199 z200 z201 z202 z203 z204 z205 z206 z207 z208 z209 z210 z211 z212 z213 z214 z215 z216 z217 z218 z219 z220 z221 z222 z223 z224 z225 z226 z227 z228 z229 z230 z231 z232 z233 z234 z235 z236 z237 z238 z239 z240 z241 z242 z243 z244 z245 z246 z247 z248 z249 z250 z251 z252 z253 z254 z255 z256 z257 z258 z259 z260 z261 z262 z263 z264 z265 z266 z267 z268 z269 z270 z271 z272 z273 z274 z275 z276 z277 z278 z279 z280 z281 z282 z283 z284 z285 z286 z287 z288 z289 z290 z291 z292 z293 z294 z295 z296 z297 z298 z299 z300 z301 z302 z303 z304 z305 z306 z307 z308 z309 z310 z311 z312 z313 z314 z315 z316 z317 z318 z319 z320:Value) (HX:Hid (RX w W g (patN q))) (h7:(stz q.inc).size=q.inc.length)
 (HN0:Hid (numZ l=finN (sc && (decide (1 < m) || (decide (0 < q.minSig) && decide ((bts t).head? = some 35)))) q)) (hts:0 < q.minSig→0 < t.size) :
 (qJG).wp Tryz.prog (bodyPost Tryz.prog Tryz.f12 (fun e w'=>e=.returned (.tuple #[.agg (patN (numZ l).1),.int .i64 (((numZ l).2:Nat):Int)])∧Below w.heap.size w w')) ⟨(z0 :: z1 :: .pointer (some ⟨g,0,none⟩) :: z3 :: .pointer (some ⟨g+1,0,none⟩) :: z5 :: z6 :: .bool sc :: z8 :: z9 :: z10 :: z11 :: z12 :: .slice A m c :: .string t :: z15 :: z16 :: z17 :: z18 :: z19 :: z20 :: z21 :: z22 :: z23 :: z24 :: z25 :: z26 :: z27 :: z28 :: z29 :: z30 :: z31 :: z32 :: z33 :: z34 :: z35 :: z36 :: z37 :: z38 :: z39 :: z40 :: z41 :: z42 :: z43 :: z44 :: z45 :: z46 :: z47 :: z48 :: z49 :: z50 :: z51 :: z52 :: z53 :: z54 :: z55 :: z56 :: z57 :: z58 :: z59 :: z60 :: z61 :: z62 :: z63 :: z64 :: z65 :: z66 :: z67 :: z68 :: z69 :: z70 :: z71 :: z72 :: z73 :: z74 :: z75 :: z76 :: z77 :: z78 :: z79 :: z80 :: z81 :: z82 :: z83 :: z84 :: z85 :: z86 :: z87 :: z88 :: z89 :: z90 :: z91 :: z92 :: z93 :: z94 :: z95 :: z96 :: z97 :: z98 :: z99 :: z100 :: z101 :: z102 :: z103 :: z104 :: z105 :: z106 :: z107 :: z108 :: z109 :: z110 :: z111 :: z112 :: z113 :: z114 :: z115 :: z116 :: z117 :: z118 :: z119 :: z120 :: z121 :: z122 :: z123 :: z124 :: z125 :: z126 :: z127 :: z128 :: z129 :: z130 :: z131 :: z132 :: z133 :: z134 :: z135 :: z136 :: z137 :: z138 :: z139 :: z140 :: z141 :: z142 :: z143 :: z144 :: z145 :: z146 :: z147 :: z148 :: z149 :: z150 :: z151 :: z152 :: z153 :: z154 :: z155 :: z156 :: z157 :: z158 :: z159 :: z160 :: z161 :: z162 :: z163 :: z164 :: z165 :: z166 :: z167 :: z168 :: z169 :: z170 :: z171 :: z172 :: z173 :: z174 :: z175 :: z176 :: z177 :: z178 :: z179 :: z180 :: z181 :: z182 :: z183 :: z184 :: z185 :: z186 :: z187 :: z188 :: z189 :: z190 :: z191 :: z192 :: z193 :: z194 :: z195 :: z196 :: z197 :: z198 :: z199 :: z200 :: z201 :: z202 :: z203 :: z204 :: z205 :: z206 :: z207 :: z208 :: z209 :: z210 :: z211 :: z212 :: z213 :: z214 :: z215 :: z216 :: z217 :: z218 :: z219 :: z220 :: z221 :: z222 :: z223 :: z224 :: z225 :: z226 :: z227 :: z228 :: z229 :: z230 :: z231 :: z232 :: z233 :: z234 :: z235 :: z236 :: z237 :: z238 :: z239 :: z240 :: z241 :: z242 :: z243 :: z244 :: z245 :: z246 :: z247 :: z248 :: z249 :: z250 :: z251 :: z252 :: z253 :: z254 :: z255 :: z256 :: z257 :: z258 :: z259 :: z260 :: z261 :: z262 :: z263 :: z264 :: z265 :: z266 :: z267 :: z268 :: z269 :: z270 :: z271 :: z272 :: z273 :: z274 :: z275 :: z276 :: z277 :: z278 :: z279 :: z280 :: z281 :: z282 :: z283 :: z284 :: z285 :: z286 :: z287 :: z288 :: z289 :: z290 :: z291 :: z292 :: z293 :: z294 :: z295 :: z296 :: z297 :: z298 :: z299 :: z300 :: z301 :: z302 :: z303 :: z304 :: z305 :: z306 :: z307 :: z308 :: z309 :: z310 :: z311 :: z312 :: z313 :: z314 :: z315 :: z316 :: z317 :: z318 :: z319 :: z320 :: []).toArray,[]⟩ W:=by
 conv=>arg 2; dsimp only [qJG,qEE,qFE,qED,qDR,qD0,qCL,qCB,qC2,qCU,qCK,qCC,qC9,qBX,qBQ,qBL,qBW,qBV,qBU,sndS,Tryz.f12,Option.getD]
 have hbr:=HX.out.br
 have c9:W.cell? ⟨g+1,9,none⟩=some (.int .i64 (q.minSig:Int)):=HX.out.bp.c 9
 generalize hM:(sc && (decide (1 < m) || (decide (0 < q.minSig) && decide ((bts t).head? = some 35))))=M at *
 have HM:=hid hM
 clear hM
 go_upto_region 69 with fail
 go_cut [293] (VMid W (.bool M))
 case first=>
  cases sc
  · have HM2:=hid (show M=false from HM.out.symm)
    go_wp2_with (first | go_skip | fail)
    go_meet
    exact ⟨by rw [HM2.out],rfl⟩
  · by_cases h1:1 < m
    · have g1:decide ((1:Int) < (m:Int))=true:=decide_eq_true (by omega)
      have HM2:=hid (show M=true by rw [← HM.out,decide_eq_true h1]; rfl)
      go_wp2_with (first | go_skip | fail)
      go_meet
      exact ⟨by rw [HM2.out],rfl⟩
    · have g1:decide ((1:Int) < (m:Int))=false:=decide_eq_false (by omega)
      by_cases h2:0 < q.minSig
      · have g2:decide ((0:Int) < (q.minSig:Int))=true:=decide_eq_true (by omega)
        have h0:=hts h2;have HBT:=hid (qDQ h0)
        by_cases h3:t[0].toNat=35
        · have g3:(((t[0].toNat:Nat):Int) == 35)=true:=by simp only [beq_iff_eq]; omega
          have HM2:=hid (show M=true by
           have e:=HBT.out;rw [List.drop_zero] at e;rw [← HM.out,decide_eq_true h2,decide_eq_true (p:=(bts t).head? = some 35) (by rw [e,h3]; rfl)]; simp)
          clear h3
          go_wp2_with (first | go_skip | fail)
          go_meet
          exact ⟨by rw [HM2.out],rfl⟩
        · have g3:(((t[0].toNat:Nat):Int) == 35)=false:=by simp only [beq_eq_false_iff_ne,ne_eq]; omega
          have HM2:=hid (show M=false by
           have e:=HBT.out;rw [List.drop_zero] at e;rw [← HM.out,decide_eq_false h1,decide_eq_false (p:=(bts t).head? = some 35) (by rw [e]; intro e2; exact h3 (Option.some.inj e2))]; simp)
          clear h3
          go_wp2_with (first | go_skip | fail)
          go_meet
          exact ⟨by rw [HM2.out],rfl⟩
      · have g2:decide ((0:Int) < (q.minSig:Int))=false:=decide_eq_false (by omega)
        have HM2:=hid (show M=false by rw [← HM.out,decide_eq_false h1,decide_eq_false h2]; simp)
        go_wp2_with (first | go_skip | fail)
        go_meet
        exact ⟨by rw [HM2.out],rfl⟩
 case rest=>
 obtain ⟨rfl,rfl⟩:=hcut
 clear HM hts
 cases M
 · have c5:wc.cell? ⟨g+1,5,none⟩=some (.int .i64 (q.minInt:Int)):=HX.out.bp.c 5
   have c6:wc.cell? ⟨g+1,6,none⟩=some (.int .i64 (q.maxInt:Int)):=HX.out.bp.c 6;have c8:wc.cell? ⟨g+1,8,none⟩=some (.int .i64 (q.maxFrac:Int)):=HX.out.bp.c 8;have c10:wc.cell? ⟨g+1,10,none⟩=some (.int .i64 (q.maxSig:Int)):=HX.out.bp.c 10;have c11:wc.cell? ⟨g+1,11,none⟩=some (.int .i64 (q.prim:Int)):=HX.out.bp.c 11;have c12:wc.cell? ⟨g+1,12,none⟩=some (.int .i64 (q.sec:Int)):=HX.out.bp.c 12;have c13:wc.cell? ⟨g+1,13,none⟩=some (.string (stz q.inc)):=HX.out.bp.c 13;have HV:=hid (fun k (h:k < 7)=>vl_at wc q 3 h);have HXV:=hid (HX.out.below (qA5 wc (.cells #[.int .i64 (q.minInt:Int),.int .i64 (q.maxInt:Int),.int .i64 (q.maxFrac:Int),.int .i64 (q.maxSig:Int),.int .i64 (q.prim:Int),.int .i64 (q.sec:Int),.int .i64 (q.inc.length:Int)] 3)))
   go_wp2
   generalize wc.alloc (.cells #[.int .i64 (q.minInt:Int),.int .i64 (q.maxInt:Int),.int .i64 (q.maxFrac:Int),.int .i64 (q.maxSig:Int),.int .i64 (q.prim:Int),.int .i64 (q.sec:Int),.int .i64 (q.inc.length:Int)] 3)=V at *;generalize wc.heap.size=b at *;clear c5 c6 c8 c9 c10 c11 c12 c13 hbr HX;have hbr:=HXV.out.br;have hbp:=HXV.out.bp;have HX:=HXV
   go_loopw [312] (fun iv wr=>∃ k:Nat,k≤7∧iv=.int .i64 (k:Int)∧wr=V∧∀ j,j < k→vl q j≤40) (fun iv _=>7 - (intOf iv).toNat)
   case atStart=>exact ⟨0,Nat.zero_le _,rfl,rfl,fun j hj=>absurd hj (Nat.not_lt_zero _)⟩
   case round=>
    obtain ⟨k,hk,rfl,rfl,hall0⟩:=hrel;have HA:=hid hall0;clear hall0
    by_cases hk7:k < 7
    · have hc:=HV.out k hk7
      have HB1:=hid (fun (h:40 < vl q k)=>vl_one hk7 h);have HA2:=hid (fun (h:vl q k≤40) j (hj:j < k+1)=>show vl q j≤40 from (Nat.lt_or_ge j k).elim (HA.out j) (fun h2=>by rw [show j=k by omega]; exact h));generalize vl q k=x at *
      by_cases hx:40 < x
      · have HN:=hid (show numZ l=({},8) by rw [HN0.out,finN,if_neg (by decide),if_pos (HB1.out hx)])
        go_wp2_with (first | go_skip | (refine wpList_store_row rfl 25 _ _ rfl g patZ rfl rfl 25 patZ hbr (qA0 _ _ _ _ _ {} _ _ _) rfl (qA6 {}) ?_) | fail)
        exact bodyPost_ret (v:=.tuple #[.agg patZ,.int .i64 8]) (qA3 Tryz.results12 _ _ g 25 _ (0,0) _ rfl (setRow_heap _ _ _ _ _ _ hbr) Tryz.underlying25 rfl (qA0 _ _ _ _ _ {} _ _ _)) rfl ⟨by rw [HN.out]; rfl,HX.out.b.setRow (Nat.le_of_eq HX.out.hz) _⟩
      · have HA3:=hid (HA2.out (by omega))
        clear HA2 HB1
        go_wp2
        go_roundw
        case rel=>exact ⟨k+1,by omega,by go_num,by first | trivial | rfl,HA3.out⟩
        case measure=>simp [intOf]; omega
    · have HBN:=hid (vl_all (fun j hj=>HA.out j (by omega)))
      have HN:=hid (show numZ l=(q,0) by rw [HN0.out,finN,if_neg (by decide),if_neg (by rw [HBN.out]; decide)]);have hsz:(Tryz.prog.info? 25).map (·.size)=some (patN q).size:=qA0 ..;have hcs:=qA6 q;have hzs:patZ.size=(patN q).size:=rfl;generalize hPV:patN q=PV at *;have HPV:=hid hPV;clear hPV
      go_wp2_with (first
       | go_skip
       | (refine wpList_load_row rfl 25 _ rfl (g+1) rfl 25 PV (0,0) _ hbp Tryz.underlying25 rfl hsz ?_)
       | (refine wpList_store_row rfl 25 _ _ rfl g PV rfl rfl 25 patZ hbr hsz hzs hcs ?_)
       | fail)
      exact bodyPost_ret (v:=.tuple #[.agg PV,.int .i64 0]) (qA3 Tryz.results12 _ _ g 25 _ (0,0) _ rfl (setRow_heap _ _ _ _ _ _ hbr) Tryz.underlying25 rfl hsz) rfl ⟨by rw [HN.out,← HPV.out]; rfl,HX.out.b.setRow (Nat.le_of_eq HX.out.hz) _⟩
 · have HN:=hid (show numZ l=({},6) from HN0.out)
   go_wp2_with (first | go_skip | (refine wpList_store_row rfl 25 _ _ rfl g patZ rfl rfl 25 patZ hbr (qA0 _ _ _ _ _ {} _ _ _) rfl (qA6 {}) ?_) | fail)
   exact bodyPost_ret (v:=.tuple #[.agg patZ,.int .i64 6]) (qA3 Tryz.results12 _ _ g 25 _ (0,0) _ rfl (setRow_heap _ _ _ _ _ _ hbr) Tryz.underlying25 rfl (qA0 _ _ _ _ _ {} _ _ _)) rfl ⟨by rw [HN.out]; rfl,HX.out.b.setRow (Nat.le_of_eq HX.out.hz) _⟩
end Go.Proofs.YtmeaiaecmmglnaaGreatDoor
