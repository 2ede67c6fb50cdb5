import Derived.Test.YtmeaiaecmmglnaaGreatDoorSL
import Derived.Test.YtmeaiaecmmglnaaGreatDoorVF
import Derived.Deep.DeepCutAuto
set_option linter.all false
set_option maxRecDepth 100000
namespace Go.Proofs.YtmeaiaecmmglnaaGreatDoor
open Go.RowKit
open Lib (hid)
set_option maxHeartbeats 2000000 in
theorem qBR (A:Option Addr) (n c:Nat) (is:List Itm) (w:World) (h:Its w A n is) (hn:n≤1000) (hm:is.all mayI=true):Calls Tryz.prog 13 #[.slice A n c] w fun e w'=>e=.returned (.string (stz (encs (itC is))))∧Below w.heap.size w w':=by
 have HC:=hid (refTokens_c A n c is w h (by omega) hm)
 have HL:=hid h.len
 have hmt:(is.map tkI).all mayT=true:=by rw [← qAQ hm]; exact qCI is
 have HV:=hid (show prtZ (is.map tkI)=stz (encs (itC is)) by rw [(qDO hmt).1,itC,qAQ hm])
 have HMT:=hid hmt
 clear h hm hmt
 go_enter Tryz.func13,Tryz.ntmps13
 go_wp2_with (first
  | (go_at_call 32; refine HC.out.mono ?_; rintro e w1 ⟨A1,m1,c1,rfl,ho,hb1⟩; have hl:=ho.out.len; rw [List.length_map] at hl; have hl2:=HL.out)
  | (go_at_call 31; refine (refPrint_c _ _ _ _ _ ho.out.tks (by omega) HMT.out).mono ?_; rintro e w2 ⟨rfl,hb2⟩)
  | fail)
 go_ret
 exact ⟨by rw [HV.out]; rfl,hb1.out.trans (hb2.mono hb1.out.size)⟩
theorem ign_text (s1 s2:ByteArray) (P S:List Itm) (h2:ShN (bts s2)):bts (s1++⟨#[59]⟩++stz (encs (itC P))++s2++stz (encs (itC S)))=bts s1++59 :: encs (hfC 0 0 P (bts s2) S):=by
 have e0:hfC 0 0 P (bts s2) S=itC P++(bts s2++itC S):=by
  show []++(itC P++([]++(bts s2++([]++(itC S++[])))))=_
  simp
 rw [e0,qAF,qAF,h2.encs]
 simp only [qAS,qAM (qIZ (allC_it _)),List.append_assoc]
 rfl
theorem ign_text2 (s1:ByteArray) (P S:List Itm):bts (s1++⟨#[59]⟩++stz (encs (itC P))++⟨#[35]⟩++stz (encs (itC S)))=bts s1++59 :: encs (hfC 0 0 P [35] S):=by
 have h:=ign_text s1 ⟨#[35]⟩ P S (show ShN [35] from qDC (p:={}) (by decide))
 exact h
theorem num35:numZ [35]=({},0):=by decide
set_option maxHeartbeats 8000000 in
theorem qFF (s1 s2:ByteArray) (A:Option Addr) (n c:Nat) (is:List Itm) (A':Option Addr) (n' c':Nat) (js:List Itm) (w:World) (hs1:s1.size≤140737488355328) (hs2:s2.size≤140737488355328) (h:Its w A n is) (h':Its w A' n' js) (hM:Mw w) :
 Calls Tryz.prog 5 #[.string s1,.string s2,.slice A n c,.slice A' n' c'] w fun e w'=>e=.returned (.bool true)∧Below w.heap.size w w':=by
 have HA:=hid (fun W (h:Mw W)=>qDU W h)
 have HM:=hid hM
 have hn:=h.2.1
 have hn':=h'.2.1
 have HL:=hid h.len
 have HL':=hid h'.len
 have HI:=hid h
 have HI':=hid h'
 have HMY:=hid (qHE A n c is w h)
 have HMY':=hid (qHE A' n' c' js w h')
 clear hM h h'
 cases hm:is.all mayI
 · rw [hm] at HMY
   clear hm
   go_enter Tryz.func5,Tryz.ntmps5
   go_wp2_with (first
    | go_skip
    | (go_at_call 11; with_reducible refine HMY.out.mono ?_; rintro e wq ⟨rfl,rfl⟩)
    | (go_at_call 7; refine (HA.out _ HM.out).mono ?_; rintro e wz ⟨rfl,hbz⟩)
    | fail)
   go_ret
   exact ⟨rfl,hbz⟩
 · rw [hm] at HMY
   cases hm':js.all mayI
   · rw [hm'] at HMY'
     clear hm hm'
     go_enter Tryz.func5,Tryz.ntmps5
     go_wp2_with (first
      | go_skip
      | (go_at_call 11; with_reducible refine HMY.out.mono ?_; rintro e wq ⟨rfl,rfl⟩)
      | (go_at_call 11; with_reducible refine HMY'.out.mono ?_; rintro e wq ⟨rfl,rfl⟩)
      | (go_at_call 7; refine (HA.out _ HM.out).mono ?_; rintro e wz ⟨rfl,hbz⟩)
      | fail)
     go_ret
     exact ⟨rfl,hbz⟩
   · rw [hm'] at HMY'
     have HMI:=hid hm;have HMJ:=hid hm';clear hm hm'
     by_cases hg:n+n'≤39∧s1.size+s2.size≤200
     · obtain ⟨hg1,hg2⟩:=hg
       have g1:decide ((39:Int) < (n:Int)+(n':Int))=false:=decide_eq_false (by omega);have g2:decide ((200:Int) < (s1.size:Int)+(s2.size:Int))=false:=decide_eq_false (by omega);have HN:=hid (fun W=>qH4 s2 W (by omega));have HSH:=hid (fun (h:(numZ (bts s2)).2=0)=>show numZ (bts s2)=((numZ (bts s2)).1,0) from Prod.ext rfl h);have HR:=hid (fun W=>rcomp_v s1 W (by omega));have hnsz:(Tryz.prog.info? 25).map (·.size)=some (patN (numZ (bts s2)).1).size:=qA0 ..;have hncs:=qA6 (numZ (bts s2)).1;have hnzs:patZ.size=(patN (numZ (bts s2)).1).size:=rfl;generalize hNF:(numZ (bts s2)).1=nf at HN hnsz hncs hnzs;generalize hNE:(numZ (bts s2)).2=ne at HN;generalize patN nf=PV at HN hnsz hncs hnzs;have HNE:=hid hNE;have HLB:=hid (qA1 s1);have HLB2:=hid (qA1 s2);clear hNF hNE
       go_enter Tryz.func5,Tryz.ntmps5
       go_upto_region 4 with (first
        | go_skip
        | (go_at_call 11; with_reducible refine HMY.out.mono ?_; rintro e wq ⟨rfl,rfl⟩)
        | (go_at_call 11; with_reducible refine HMY'.out.mono ?_; rintro e wq ⟨rfl,rfl⟩)
        | (go_at_call 12; refine (HN.out _).mono ?_; rintro e w1 ⟨rfl,hb1⟩)
        | (refine wpList_store_row rfl 25 _ _ rfl w1.heap.size PV rfl rfl 25 patZ (BX.new w1 patZ 25) hnsz hnzs hncs ?_)
        | fail)
       change Code.wp _ _ _ _ ((w1.alloc (.cells patZ 25)).setRow w1.heap.size PV)
       have HB1:=hid (show Below w.heap.size w ((w1.alloc (.cells patZ 25)).setRow w1.heap.size PV) from (hb1.alloc hb1.size _).setRow hb1.size _);generalize (w1.alloc (.cells patZ 25)).setRow w1.heap.size PV=W1 at *;clear hb1 HN HMY HMY'
       by_cases hne:ne=0
       · have HNU:=hid (HSH.out (HNE.out.trans hne))
         subst hne;have HPA:=hid (fun W (hb:Below w.heap.size w W)=>qBR A n c is W (HI.out.below hb) (by omega) HMI.out);have HPB:=hid (fun W (hb:Below w.heap.size w W)=>qBR A' n' c' js W (HI'.out.below hb) (by omega) HMJ.out);have hta:(stz (encs (itC is))).size≤700:=by
          have e:(is.map tkI).length=n:=by rw [List.length_map]; exact HL.out
          have hmt:(is.map tkI).all mayT=true:=by rw [← qAQ HMI.out]; exact qCI is
          have:=qFM (is.map tkI);rw [(qDO hmt).1,← qAQ HMI.out] at this;rw [show stz (encs (itC is))=stz (encs (nats (prt (tksI is) []))) from rfl];have e2:(tksI is).length=n:=by rw [qAQ HMI.out]; exact e
          omega
         have htb:(stz (encs (itC js))).size≤700:=by
          have e:(js.map tkI).length=n':=by rw [List.length_map]; exact HL'.out
          have hmt:(js.map tkI).all mayT=true:=by rw [← qAQ HMJ.out]; exact qCI js
          have:=qFM (js.map tkI);rw [(qDO hmt).1,← qAQ HMJ.out] at this;rw [show stz (encs (itC js))=stz (encs (nats (prt (tksI js) []))) from rfl];have e2:(tksI js).length=n':=by rw [qAQ HMJ.out]; exact e
          omega
         have HT1:=hid (ign_text s1 s2 is js (qDC HNU.out));have HT2:=hid (ign_text2 s1 is js);generalize stz (encs (itC is))=TA at *;generalize stz (encs (itC js))=TB at *;have hs1':s1.size≤200:=by omega
         have hs2':s2.size≤200:=by omega
         go_upto_region 7 with (first
          | go_skip
          | (go_at_call 13; with_reducible refine (HPA.out _ HB1.out).mono ?_; rintro e w2 ⟨rfl,hb2⟩; have HB2:=hid (HB1.out.trans (hb2.mono HB1.out.size)); clear HPA)
          | (go_at_call 13; with_reducible refine (HPB.out _ HB2.out).mono ?_; rintro e w3 ⟨rfl,hb3⟩; have HB3:=hid (HB2.out.trans (hb3.mono HB2.out.size)))
          | fail)
         clear hb2 hb3 HPB
         go_cut [13,14] (McP (compZ (bts s1)).1 (compZ (bts s1)).2.1 (compZ (bts s1)).2.2 w3)
         case first=>
          go_wp2_with (first
           | go_skip
           | (go_at_call 9; refine (HR.out _).mono ?_; rintro e w1 ⟨PV,rfl,hpt,hb1⟩; obtain ⟨hsz,h20,hce⟩:=hpt.out.sz)
           | (refine wpList_store_row rfl 25 _ _ rfl w1.heap.size PV rfl rfl 25 patZ ((BX.new w1 patZ 25).alloc _) hsz h20 hce ?_)
           | (refine wpList_store_row rfl 28 _ _ rfl (w1.heap.size+1) #[.int .i64 _,.int .i64 _] rfl rfl 28 _ (pb_f PV) (qA2 _ _) rfl (qA4 _ _) ?_)
           | fail)
          go_meet
          exact qCD hpt.out hb1
         case rest=>
         obtain ⟨b,PVr,rfl,rfl,hpb,hbc⟩:=hcut;have HPR:=hid hpb;have HBR:=hid hbc;clear hpb hbc;go_step;have y0:wc.cell? ⟨b+1,0,none⟩=some (.int .i64 (compZ (bts s1)).2.1):=HPR.out.bf.c 0;have HBR:=hid (HB3.out.trans (HBR.out.mono HB3.out.size));clear HPR HR;have HCI:=hid (fun (h0:(compZ (bts s1)).2.1=0)=>qKU (qAP s1) h0 HMI.out HMJ.out (by have:=HL.out; omega) (by have:=HL'.out; omega) HNU.out num35 (by rw [HLB.out,HLB2.out,HL.out,HL'.out]; omega) (by rw [HLB.out,HL.out,HL'.out]; show s1.size+1+(n+1+n')≤400; omega));generalize (compZ (bts s1)).2.1=fe at *
         by_cases hfe:fe=0
         · have HEQ:=hid (show compZ (bts (s1++⟨#[59]⟩++TA++s2++TB))=compZ (bts (s1++⟨#[59]⟩++TA++⟨#[35]⟩++TB)) by rw [HT1.out,HT2.out]; exact HCI.out hfe)
           subst hfe;clear HCI HT1 HT2;have HP1:=hid (fun W (h:Mw W)=>qD5 (s1++⟨#[59]⟩++TA++s2++TB) W (by simp only [ByteArray.size_append]; show s1.size+1+TA.size+s2.size+TB.size≤_; omega) h);have HP2:=hid (fun W (h:Mw W)=>qD5 (s1++⟨#[59]⟩++TA++⟨#[35]⟩++TB) W (by simp only [ByteArray.size_append]; show s1.size+1+TA.size+1+TB.size≤_; omega) h);rw [HEQ.out] at HP1;generalize compZ (bts (s1++⟨#[59]⟩++TA++⟨#[35]⟩++TB))=C at *;obtain ⟨P,ce,cp⟩:=C;dsimp only at HP1 HP2;clear HEQ
           go_upto_region 10 with (first | go_skip | fail)
           generalize wc=V0 at *
           go_cut [15,16] (McP P ce cp V0)
           case first=>
            go_wp2_with (first
             | go_skip
             | (go_at_call 8; refine (HP1.out _ (HM.out.below HBR.out)).mono ?_; rintro e w1 ⟨PV,rfl,hpt,hb1⟩; obtain ⟨hsz,h20,hce⟩:=hpt.out.sz)
             | (refine wpList_store_row rfl 25 _ _ rfl w1.heap.size PV rfl rfl 25 patZ ((BX.new w1 patZ 25).alloc _) hsz h20 hce ?_)
             | (refine wpList_store_row rfl 28 _ _ rfl (w1.heap.size+1) #[.int .i64 _,.int .i64 _] rfl rfl 28 _ (pb_f PV) (qA2 _ _) rfl (qA4 _ _) ?_)
             | fail)
            go_meet
            exact qCD hpt.out hb1
           case rest=>
           obtain ⟨a1,PVa,rfl,rfl,hpb,hbc⟩:=hcut;have HPA:=hid hpb;have HBA:=hid hbc;clear hpb hbc;go_step;go_step
           go_cut [17,18] (McP P ce cp wc)
           case first=>
            go_wp2_with (first
             | go_skip
             | (go_at_call 8; refine (HP2.out _ (HM.out.below (HBR.out.trans (HBA.out.mono HBR.out.size)))).mono ?_; rintro e w1 ⟨PV,rfl,hpt,hb1⟩; obtain ⟨hsz,h20,hce⟩:=hpt.out.sz)
             | (refine wpList_store_row rfl 25 _ _ rfl w1.heap.size PV rfl rfl 25 patZ ((BX.new w1 patZ 25).alloc _) hsz h20 hce ?_)
             | (refine wpList_store_row rfl 28 _ _ rfl (w1.heap.size+1) #[.int .i64 _,.int .i64 _] rfl rfl 28 _ (pb_f PV) (qA2 _ _) rfl (qA4 _ _) ?_)
             | fail)
            go_meet
            exact qCD hpt.out hb1
           case rest=>
           obtain ⟨b1,PVb,rfl,rfl,hpb,hbc⟩:=hcut;have HPB:=hid hpb;have HBB:=hid hbc;clear hpb hbc;go_step;have HPA:=hid (HPA.out.below HBB.out);have HBW:=hid ((HBR.out.trans (HBA.out.mono HBR.out.size)).trans (HBB.out.mono (Nat.le_trans HBR.out.size HBA.out.size)));clear HBA HP1 HP2
           go_wp2_with (first
            | go_skip
            | (go_at_call 7; refine (HA.out _ (HM.out.below HBW.out)).mono ?_; rintro e w5 ⟨rfl,hb5⟩; have HPA5:=hid (HPA.out.below hb5); have HPB5:=hid (HPB.out.below hb5); have q0:=HPA5.out.bf.c 0; have q1:=HPA5.out.bf.c 1; have z0:=HPB5.out.bf.c 0; have z1:=HPB5.out.bf.c 1; have k0:=HPA5.out.bp; have k1:=HPB5.out.bp; have s0:=HPA5.out.pt.sz.1; have s1:=HPB5.out.pt.sz.1)
            | (refine qAI rfl 25 _ rfl a1 rfl 25 PVa (0,0) _ k0 Tryz.underlying25 rfl s0 ?_)
            | (refine qAI rfl 25 _ rfl b1 rfl 25 PVb (0,0) _ k1 Tryz.underlying25 rfl s1 ?_)
            | (go_at_call 10; refine (qJS PVa PVb P _ HPA5.out.pt HPB5.out.pt).mono ?_; rintro e w6 ⟨rfl,hb6⟩)
            | fail)
           go_ret
           exact ⟨rfl,HBW.out.trans ((hb5.trans (hb6.mono hb5.size)).mono HBW.out.size)⟩
         · have gp:(fe != 0)=true:=by simpa using hfe
           go_wp2_with (first
            | go_skip
            | (go_at_call 7; refine (HA.out _ (HM.out.below HBR.out)).mono ?_; rintro e wz ⟨rfl,hbz⟩)
            | fail)
           go_ret
           exact ⟨rfl,HBR.out.trans (hbz.mono HBR.out.size)⟩
       · have gp:(((ne:Nat):Int) != 0)=true:=by rw [bne_iff_ne]; omega
         go_wp2_with (first
          | go_skip
          | (go_at_call 7; refine (HA.out _ (HM.out.below HB1.out)).mono ?_; rintro e wz ⟨rfl,hbz⟩)
          | fail)
         go_ret
         exact ⟨rfl,HB1.out.trans (hbz.mono HB1.out.size)⟩
     · by_cases hg1:n+n'≤39
       · have g1:decide ((39:Int) < (n:Int)+(n':Int))=false:=decide_eq_false (by omega)
         have g2:decide ((200:Int) < (s1.size:Int)+(s2.size:Int))=true:=decide_eq_true (by omega);clear hg
         go_enter Tryz.func5,Tryz.ntmps5
         go_wp2_with (first
          | go_skip
          | (go_at_call 11; with_reducible refine HMY.out.mono ?_; rintro e wq ⟨rfl,rfl⟩)
          | (go_at_call 11; with_reducible refine HMY'.out.mono ?_; rintro e wq ⟨rfl,rfl⟩)
          | (go_at_call 7; refine (HA.out _ HM.out).mono ?_; rintro e wz ⟨rfl,hbz⟩)
          | fail)
         go_ret
         exact ⟨rfl,hbz⟩
       · have g1:decide ((39:Int) < (n:Int)+(n':Int))=true:=decide_eq_true (by omega)
         clear hg
         go_enter Tryz.func5,Tryz.ntmps5
         go_wp2_with (first
          | go_skip
          | (go_at_call 11; with_reducible refine HMY.out.mono ?_; rintro e wq ⟨rfl,rfl⟩)
          | (go_at_call 11; with_reducible refine HMY'.out.mono ?_; rintro e wq ⟨rfl,rfl⟩)
          | (go_at_call 7; refine (HA.out _ HM.out).mono ?_; rintro e wz ⟨rfl,hbz⟩)
          | fail)
         go_ret
         exact ⟨rfl,hbz⟩
end Go.Proofs.YtmeaiaecmmglnaaGreatDoor
