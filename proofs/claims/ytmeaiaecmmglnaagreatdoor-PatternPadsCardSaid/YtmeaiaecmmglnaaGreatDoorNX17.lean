import Derived.Deep.LoopGhost
import Derived.Deep.CutBlock
import Derived.Test.YtmeaiaecmmglnaaGreatDoorNX18
import Derived.Test.YtmeaiaecmmglnaaGreatDoorMG
set_option linter.all false
set_option maxRecDepth 100000
set_option linter.unusedVariables false
namespace Go.Proofs.YtmeaiaecmmglnaaGreatDoor
open Go.RowKit
open Lib (hid)
theorem dw35 {s:ByteArray} {k:Nat} (hk:k < s.size) (ha:∀ x ∈ (bts s).take k,h35 x=true) (hn:s[k].toNat≠35):((bts s).dropWhile h35).length=s.size - k:=by
 conv=>lhs; rw [← List.take_append_drop k (bts s)]
 rw [dw_app ha,qDQ hk,qJA,List.length_cons,List.length_drop,qA1]
 · omega
 · intro c hc
   rw [List.head?_cons] at hc
   cases hc
   rw [Bool.eq_false_iff];exact fun e=>hn (by simpa [h35] using e)
set_option maxHeartbeats 16000000 in
theorem num17t (l:List Nat) (w W:World) (g m c:Nat) (A:Option Addr) (sc point:Bool) (fr t al:ByteArray) (me:Nat) (pl:Bool) (sz:List Nat) (z0 z1 z3 z5 z6 z8 z9 z10 z15 z16 z17 z19 z20 z21 z22 z23 z24 z25 z26 z27 z28 z29 z30 z31 z32 z33 z34 z35 z36 z37 z38 z39 z40 z41 z42 z43 z44 z45 z46 z47 z48 z49 z50 z51 z52 z53 z54 z55 z56 z57 z58 z59 z60 z61 z62 z63 z64 z65 z66 z67 z68 z69 z70 z71 z72 z73 z74 z75 z76 z77 z78 z79 z80 z81 z82 z83 z84 z85 z86 z87 z88 z89 z90 z91 z92 z93 z94 z95 z96 z97 z98 z99 z100 z101 z102 z103 z104 z105 z106 z107 z108 z109 z110 z111 z112 z113 z114 z115 z116 z117 z118 z119 z120 z121 z122 z123 z124 z125 z126 z127 z128 z129 z130 z131 z132 z133 z134 z135 z136 z137 z138 z139 z140 z141 z142 z143 z144 z145 z146 z147 z148 z149 z150 z151 z152 z153 z154 z155 z156 z157 z158 z159 z160 z161 z162 z163 z164 z165 z166 z167 z168 z169 z170 z171 z172 z173 z174 z175 z176 z177 z178 z179 z180 z181 z182 z183 z184 z185 z186 z187 z188 z189 z190 z191 z192 z193 z194 z195 z196 z197 z198 z199 z200 z201 z202 z203 z204 z205 z206 z207 z208 z209 z210 z211 z212 z213 z214 z215 z216 z217 z218 z219 z220 z221 z222 z223 z224 z225 z226 z227 z228 z229 z230 z231 z232 z233 z234 z235 z236 z237 z238 z239 z240 z241 z242 z243 z244 z245 z246 z247 z248 z249 z250 z251 z252 z253 z254 z255 z256 z257 z258 z259 z260 z261 z262 z263 z264 z265 z266 z267 z268 z269 z270 z271 z272 z273 z274 z275 z276 z277 z278 z279 z280 z281 z282 z283 z284 z285 z286 z287 z288 z289 z290 z291 z292 z293 z294 z295 z296 z297 z298 z299 z300 z301 z302 z303 z304 z305 z306 z307 z308 z309 z310 z311 z312 z313 z314 z315 z316 z317 z318 z319 z320:Value) (HX:Hid (RX w W g (patN { sci:=sc,minExp:=me,plus:=pl,prim:=primZ sz,sec:=secZ sz }))) (hm:sz.length=m)
 (HN0:Hid (numZ l=numP (bts t) (bts fr) point sz sc me pl)) (HAL:Hid (bts al=bts t++bts fr)) (hpf:point=false→fr.size=0) (hts:t.size≤100000000) (hfs:fr.size≤100000000) (has:al.size≤200000000) (hA:(bts al).any a64=true) :
 (qEE).wp Tryz.prog (bodyPost Tryz.prog Tryz.f12 (fun e w'=>e=.returned (.tuple #[.agg (patN (numZ l).1),.int .i64 (((numZ l).2:Nat):Int)])∧Below w.heap.size w w')) ⟨(z0 :: z1 :: .pointer (some ⟨g,0,none⟩) :: z3 :: .pointer (some ⟨g+1,0,none⟩) :: z5 :: z6 :: .bool sc :: z8 :: z9 :: z10 :: .string fr :: .bool point :: .slice A m c :: .string t :: z15 :: z16 :: z17 :: .string al :: z19 :: z20 :: z21 :: z22 :: z23 :: z24 :: z25 :: z26 :: z27 :: z28 :: z29 :: z30 :: z31 :: z32 :: z33 :: z34 :: z35 :: z36 :: z37 :: z38 :: z39 :: z40 :: z41 :: z42 :: z43 :: z44 :: z45 :: z46 :: z47 :: z48 :: z49 :: z50 :: z51 :: z52 :: z53 :: z54 :: z55 :: z56 :: z57 :: z58 :: z59 :: z60 :: z61 :: z62 :: z63 :: z64 :: z65 :: z66 :: z67 :: z68 :: z69 :: z70 :: z71 :: z72 :: z73 :: z74 :: z75 :: z76 :: z77 :: z78 :: z79 :: z80 :: z81 :: z82 :: z83 :: z84 :: z85 :: z86 :: z87 :: z88 :: z89 :: z90 :: z91 :: z92 :: z93 :: z94 :: z95 :: z96 :: z97 :: z98 :: z99 :: z100 :: z101 :: z102 :: z103 :: z104 :: z105 :: z106 :: z107 :: z108 :: z109 :: z110 :: z111 :: z112 :: z113 :: z114 :: z115 :: z116 :: z117 :: z118 :: z119 :: z120 :: z121 :: z122 :: z123 :: z124 :: z125 :: z126 :: z127 :: z128 :: z129 :: z130 :: z131 :: z132 :: z133 :: z134 :: z135 :: z136 :: z137 :: z138 :: z139 :: z140 :: z141 :: z142 :: z143 :: z144 :: z145 :: z146 :: z147 :: z148 :: z149 :: z150 :: z151 :: z152 :: z153 :: z154 :: z155 :: z156 :: z157 :: z158 :: z159 :: z160 :: z161 :: z162 :: z163 :: z164 :: z165 :: z166 :: z167 :: z168 :: z169 :: z170 :: z171 :: z172 :: z173 :: z174 :: z175 :: z176 :: z177 :: z178 :: z179 :: z180 :: z181 :: z182 :: z183 :: z184 :: z185 :: z186 :: z187 :: z188 :: z189 :: z190 :: z191 :: z192 :: z193 :: z194 :: z195 :: z196 :: z197 :: z198 :: z199 :: z200 :: z201 :: z202 :: z203 :: z204 :: z205 :: z206 :: z207 :: z208 :: z209 :: z210 :: z211 :: z212 :: z213 :: z214 :: z215 :: z216 :: z217 :: z218 :: z219 :: z220 :: z221 :: z222 :: z223 :: z224 :: z225 :: z226 :: z227 :: z228 :: z229 :: z230 :: z231 :: z232 :: z233 :: z234 :: z235 :: z236 :: z237 :: z238 :: z239 :: z240 :: z241 :: z242 :: z243 :: z244 :: z245 :: z246 :: z247 :: z248 :: z249 :: z250 :: z251 :: z252 :: z253 :: z254 :: z255 :: z256 :: z257 :: z258 :: z259 :: z260 :: z261 :: z262 :: z263 :: z264 :: z265 :: z266 :: z267 :: z268 :: z269 :: z270 :: z271 :: z272 :: z273 :: z274 :: z275 :: z276 :: z277 :: z278 :: z279 :: z280 :: z281 :: z282 :: z283 :: z284 :: z285 :: z286 :: z287 :: z288 :: z289 :: z290 :: z291 :: z292 :: z293 :: z294 :: z295 :: z296 :: z297 :: z298 :: z299 :: z300 :: z301 :: z302 :: z303 :: z304 :: z305 :: z306 :: z307 :: z308 :: z309 :: z310 :: z311 :: z312 :: z313 :: z314 :: z315 :: z316 :: z317 :: z318 :: z319 :: z320 :: []).toArray,[]⟩ W:=by
 conv=>arg 2; dsimp only [qEE,qFE,qED,qDR,qD0,qCL,qCB,qC2,qCU,qCK,qCC,qC9,qBX,qBQ,qBL,qBW,qBV,qBU,sndS,Tryz.f12,Option.getD]
 iterate 2 go_step
 go_cut [] (Mid17 w g l sc m t)
 case first=>
  have hbr:=HX.out.br;have HC1:Hid (∀ W,Calls Tryz.prog 29 #[.string al,.int .u8 64] W fun e w'=>e=.returned (.int .i64 (((bts al).countP a64:Nat):Int))∧W=w'):=hid (fun W=>by have:=qB9 al 64 W (by omega); rwa [qCY (by decide)] at this);have HNS:Hid (numZ l=if point || (bts t).any dg then ({},6) else if !qBT h35 a64 h35 (bts t) then ({},4) else finN (sc && (decide (1 < sz.length) || decide ((bts t).head? = some 35))) (sigN (bts t) sz sc me pl)):=hid (by rw [HN0.out,numP,← HAL.out,hA,if_pos rfl]);have g46:(0:Int) < (((bts al).countP a64:Nat):Int):=by
   have:=List.countP_pos_iff.2 (List.any_eq_true.1 hA);omega
  have HC2:Hid (∀ W,Calls Tryz.prog 29 #[.string t,.int .u8 48] W fun e w'=>e=.returned (.int .i64 (((bts t).countP dg:Nat):Int))∧W=w'):=hid (fun W=>by have:=qB9 t 48 W (by omega); rwa [qEC] at this);have HC3:Hid (∀ W,Calls Tryz.prog 29 #[.string t,.int .u8 64] W fun e w'=>e=.returned (.int .i64 (((bts t).countP a64:Nat):Int))∧W=w'):=hid (fun W=>by have:=qB9 t 64 W (by omega); rwa [qCY (by decide)] at this);have HR:Hid (∀ W,Calls Tryz.prog 30 #[.string t,.int .u8 35,.int .u8 64,.int .u8 35] W fun e w'=>e=.returned (.bool (qBT h35 a64 h35 (bts t)))∧Below W.heap.size W w'):=hid (fun W=>by have:=qHV t 35 64 35 W (by omega); rwa [qCY (by decide),qCY (by decide)] at this);generalize (bts al).countP a64=ca at *;generalize hct:(bts t).countP a64=ct at *;have HCT:=hid hct;clear hct
  cases point
  · have hfz:=hpf rfl
    have HAT:=hid (show (bts t).any a64=true by
     have e:=HAL.out;rw [show bts fr=[] from List.eq_nil_of_length_eq_zero (by rw [qA1]; exact hfz),List.append_nil] at e;rw [← e]; exact hA)
    clear hA
    rcases hD:(bts t).any dg with _ | _
    · have hz:(bts t).countP dg=0:=List.countP_eq_zero.2 fun x hx=>by rw [List.any_eq_false.1 hD x hx |> Bool.eq_false_iff.2]; decide
      rw [hz] at HC2;clear hz;rw [hD,Bool.false_or,if_neg (by decide)] at HNS;generalize hrb:qBT h35 a64 h35 (bts t)=rb at *
      cases rb
      · have HN:=hid (show numZ l=({},4) from HNS.out)
        clear hD HAT
        go_wp2_with (first
         | go_skip
         | (go_at_call 29; with_reducible refine (HC1.out _).mono ?_; rintro e w0 ⟨rfl,rfl⟩)
         | (go_at_call 29; with_reducible refine (HC2.out _).mono ?_; rintro e w1 ⟨rfl,rfl⟩)
         | (go_at_call 29; with_reducible refine (HC3.out _).mono ?_; rintro e w2 ⟨rfl,rfl⟩)
         | (go_at_call 30; refine (HR.out _).mono ?_; rintro e w3 ⟨rfl,hb3⟩; have HX:=hid (HX.out.below hb3); have hbr:=HX.out.br; clear hb3)
         | (refine wpList_store_row rfl 25 _ _ rfl g patZ rfl rfl 25 patZ hbr (qA0 _ _ _ _ _ {} _ _ _) rfl (qA6 {}) ?_)
         | fail)
        exact bodyPost_ret (v:=.tuple #[.agg patZ,.int .i64 4]) (qA3 Tryz.results12 _ _ g 25 _ (0,0) _ rfl (setRow_heap _ _ _ _ _ _ hbr) Tryz.underlying25 rfl (qA0 _ _ _ _ _ {} _ _ _)) rfl ⟨by rw [HN.out]; rfl,HX.out.b.setRow (Nat.le_of_eq HX.out.hz) _⟩
      · have HNT:=hid (show numZ l=finN (sc && (decide (1 < sz.length) || decide ((bts t).head? = some 35))) (sigN (bts t) sz sc me pl) from HNS.out)
        clear HNS hD hrb
        go_upto_region 51 with (first
         | go_skip
         | (go_at_call 29; with_reducible refine (HC1.out _).mono ?_; rintro e w0 ⟨rfl,rfl⟩)
         | (go_at_call 29; with_reducible refine (HC2.out _).mono ?_; rintro e w1 ⟨rfl,rfl⟩)
         | (go_at_call 29; with_reducible refine (HC3.out _).mono ?_; rintro e w2 ⟨rfl,rfl⟩)
         | (go_at_call 30; refine (HR.out _).mono ?_; rintro e w3 ⟨rfl,hb3⟩; have HX:=hid (HX.out.below hb3); have hbr:=HX.out.br; clear hb3)
         | fail)
        have d9:=HX.out.bp.v 9 rfl;have f9:=HX.out.bp.fr 9
        go_upto_region 52 with (first
         | go_skip
         | (go_at_call 29; with_reducible refine (HC1.out _).mono ?_; rintro e w0 ⟨rfl,rfl⟩)
         | (go_at_call 29; with_reducible refine (HC2.out _).mono ?_; rintro e w1 ⟨rfl,rfl⟩)
         | (go_at_call 29; with_reducible refine (HC3.out _).mono ?_; rintro e w2 ⟨rfl,rfl⟩)
         | (go_at_call 30; refine (HR.out _).mono ?_; rintro e w3 ⟨rfl,hb3⟩; have HX:=hid (HX.out.below hb3); have hbr:=HX.out.br; clear hb3)
         | fail)
        have HX:=hid (HX.out.set 9 (.int .i64 ((ct:Nat):Int)) (patN { sci:=sc,minExp:=me,plus:=pl,prim:=primZ sz,sec:=secZ sz,minSig:=ct }) rfl);clear d9 f9 hbr;generalize w3.setCell ⟨g+1,9,none⟩ (.int .i64 (ct:Int))=W9 at *;have d10:=HX.out.bp.v 10 rfl;have f10:=HX.out.bp.fr 10
        go_upto_block 6 with fail
        have HX:=hid (HX.out.set 10 (.int .i64 (t.size:Int)) (patN { sci:=sc,minExp:=me,plus:=pl,prim:=primZ sz,sec:=secZ sz,minSig:=ct,maxSig:=t.size }) rfl);clear d10 f10;generalize hW10:W9.setCell ⟨g+1,10,none⟩ (.int .i64 (t.size:Int))=W10 at *;clear hW10 hbr;have HCP:=hid (show 0 < ct by rw [← HCT.out]; exact List.countP_pos_iff.2 (List.any_eq_true.1 HAT.out))
        go_wp2_with fail
        go_loopg [210,211,212,213,214,215,216,217,218,219,220,221] t.size (fun k _ _ _ _ _ _ _ _ _ _ _ _ wr=>RX w wr g (patN { sci:=sc,minExp:=me,plus:=pl,prim:=primZ sz,sec:=secZ sz,minSig:=ct,maxSig:=k })∧k≤t.size∧∀ x ∈ (bts t).take (t.size - k),h35 x=true)
        case atStart=>exact ⟨HX.out,Nat.le_refl _,fun x hx=>by rw [Nat.sub_self] at hx; cases hx⟩
        case round=>
         obtain ⟨hx0,hkt,hall0⟩:=hrel;have HX:=hid hx0;have HALL:=hid hall0;clear hx0 hall0;have hk0:0 < gk:=by
          refine Nat.pos_of_ne_zero fun e=>?_
          subst e;obtain ⟨x,hx,hx2⟩:=List.any_eq_true.1 HAT.out;have:=HALL.out x (by rw [Nat.sub_zero,qBK]; exact hx);simp only [h35,a64,beq_iff_eq] at this hx2;omega
         obtain ⟨n,rfl⟩:∃ n,gk=n+1:=⟨gk - 1,by omega⟩;obtain ⟨j,hj⟩:∃ j,t.size=j+(n+1):=⟨t.size - (n+1),by omega⟩;have hjt:j < t.size:=by omega
         have hji:(t.size:Int) - ((n:Int)+1)=(j:Int):=by omega
         have hni:((n:Int)+1) - 1=(n:Int):=by omega
         have hsj:t.size - (n+1)=j:=by omega
         rw [hsj] at HALL;have HJ:=hid hj;clear hj;have d10:wr.cell? ⟨g+1,10,none⟩=some (.int .i64 ((n:Int)+1)):=HX.out.bp.c 10;have f10:=HX.out.bp.fr 10
         by_cases h3:t[j].toNat=35
         · have g3:(((t[j].toNat:Nat):Int) == 35)=true:=by simp only [beq_iff_eq]; omega
           have HST:=hid (show ∀ x ∈ (bts t).take (t.size - n),h35 x=true from fun x hx=>by
            rw [show t.size - n=j+1 by have:=HJ.out; omega,qAR hjt] at hx
            rcases List.mem_append.1 hx with hx | hx
            · exact HALL.out x hx
            · rw [List.mem_singleton] at hx; subst hx; simp [h35,h3])
           clear h3 hsj
           go_wp2_with (first | go_skip | fail)
           go_roundg n
           case measure=>omega
           case rel=>exact ⟨HX.out.set 10 (.int .i64 (n:Int)) (patN { sci:=sc,minExp:=me,plus:=pl,prim:=primZ sz,sec:=secZ sz,minSig:=ct,maxSig:=n }) rfl,by omega,HST.out⟩
         · have g3:(((t[j].toNat:Nat):Int) == 35)=false:=by simp only [beq_eq_false_iff_ne,ne_eq]; omega
           have HDW:=hid (dw35 hjt HALL.out h3);clear h3
           go_wp2_with (first | go_skip | fail)
           go_meet
           refine ⟨{ sci:=sc,minExp:=me,plus:=pl,prim:=primZ sz,sec:=secZ sz,minSig:=ct,maxSig:=n+1 },HX.out,?_,fun _=>by omega,rfl⟩;rw [HNT.out,sigN,HCT.out,HDW.out,show t.size - j=n+1 by have:=HJ.out; omega,hm,decide_eq_true HCP.out,Bool.true_and]
    · obtain ⟨cj,hcj⟩:∃ cj,(bts t).countP dg=cj+1:=⟨(bts t).countP dg - 1,by have:=List.countP_pos_iff.2 (List.any_eq_true.1 hD); omega⟩
      rw [hcj] at HC2;have g47:decide ((0:Int) < (((cj+1:Nat):Nat):Int))=true:=decide_eq_true (by omega);have g47':decide ((0:Int) < (cj:Int)+1)=true:=decide_eq_true (by omega);have HN:=hid (show numZ l=({},6) by rw [HNS.out,hD]; rfl);clear hD HAT hcj
      go_wp2_with (first
       | go_skip
       | (go_at_call 29; with_reducible refine (HC1.out _).mono ?_; rintro e w0 ⟨rfl,rfl⟩)
       | (go_at_call 29; with_reducible refine (HC2.out _).mono ?_; rintro e w1 ⟨rfl,rfl⟩)
       | (go_at_call 29; with_reducible refine (HC3.out _).mono ?_; rintro e w2 ⟨rfl,rfl⟩)
       | (go_at_call 30; refine (HR.out _).mono ?_; rintro e w3 ⟨rfl,hb3⟩; have HX:=hid (HX.out.below hb3); have hbr:=HX.out.br; clear hb3)
       | (refine wpList_store_row rfl 25 _ _ rfl g patZ rfl rfl 25 patZ hbr (qA0 _ _ _ _ _ {} _ _ _) rfl (qA6 {}) ?_)
       | fail)
      exact bodyPost_ret (v:=.tuple #[.agg patZ,.int .i64 6]) (qA3 Tryz.results12 _ _ g 25 _ (0,0) _ rfl (setRow_heap _ _ _ _ _ _ hbr) Tryz.underlying25 rfl (qA0 _ _ _ _ _ {} _ _ _)) rfl ⟨by rw [HN.out]; rfl,HX.out.b.setRow (Nat.le_of_eq HX.out.hz) _⟩
  · have HN:=hid (show numZ l=({},6) by rw [HNS.out]; rfl)
    clear hA
    go_wp2_with (first
     | go_skip
     | (go_at_call 29; with_reducible refine (HC1.out _).mono ?_; rintro e w0 ⟨rfl,rfl⟩)
     | (go_at_call 29; with_reducible refine (HC2.out _).mono ?_; rintro e w1 ⟨rfl,rfl⟩)
     | (go_at_call 29; with_reducible refine (HC3.out _).mono ?_; rintro e w2 ⟨rfl,rfl⟩)
     | (go_at_call 30; refine (HR.out _).mono ?_; rintro e w3 ⟨rfl,hb3⟩; have HX:=hid (HX.out.below hb3); have hbr:=HX.out.br; clear hb3)
     | (refine wpList_store_row rfl 25 _ _ rfl g patZ rfl rfl 25 patZ hbr (qA0 _ _ _ _ _ {} _ _ _) rfl (qA6 {}) ?_)
     | fail)
    exact bodyPost_ret (v:=.tuple #[.agg patZ,.int .i64 6]) (qA3 Tryz.results12 _ _ g 25 _ (0,0) _ rfl (setRow_heap _ _ _ _ _ _ hbr) Tryz.underlying25 rfl (qA0 _ _ _ _ _ {} _ _ _)) rfl ⟨by rw [HN.out]; rfl,HX.out.b.setRow (Nat.le_of_eq HX.out.hz) _⟩
 case rest=>
 obtain ⟨q,hx,hn,ht,hi⟩:=hcut
 go_step
 refine wp_mono (c:=qJG) (num18 l w wc g m c A sc t q _ _ _ _ _ _ _ _ _ _ _ _ _ _ _ _ _ _ _ _ _ _ _ _ _ _ _ _ _ _ _ _ _ _ _ _ _ _ _ _ _ _ _ _ _ _ _ _ _ _ _ _ _ _ _ _ _ _ _ _ _ _ _ _ _ _ _ _ _ _ _ _ _ _ _ _ _ _ _ _ _ _ _ _ _ _ _ _ _ _ _ _ _ _ _ _ _ _ _ _ _ _ _ _ _ _ _ _ _ _ _ _ _ _ _ _ _ _ _ _ _ _ _ _ _ _ _ _ _ _ _ _ _ _ _ _ _ _ _ _ _ _ _ _ _ _ _ _ _ _ _ _ _ _ _ _ _ _ _ _ _ _ _ _ _ _ _ _ _ _ _ _ _ _ _ _ _ _ _ _ _ _ _ _ _ _ _ _ _ _ _ _ _ _ _ _ _ _ _ _ _ _ _ _ _ _ _ _ _ _ _ _ _ _ _ _ _ _ _ _ _ _ _ _ _ _ _ _ _ _ _ _ _ _ _ _ _ _ _ _ _ _ _ _ _ _ _ _ _ _ _ _ _ _ _ _ _ _ _ _ _ _ _ _ _ _ _ _ _ _ _ _ _ _ _ _ _ _ _ _ _ _ _ _ _ _ _ _ _ _ _ _ _ _ _ _ _ _ _ _ _ _ _ _ _ _ _ _ _ _ _ _ _ _ _ _ (hid hx) hi (hid hn) ht) ?_
 intro e a w' h
 go_step
 exact h
end Go.Proofs.YtmeaiaecmmglnaaGreatDoor
