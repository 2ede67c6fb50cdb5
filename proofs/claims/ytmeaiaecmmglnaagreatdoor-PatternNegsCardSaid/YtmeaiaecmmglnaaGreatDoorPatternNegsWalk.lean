import Derived.Test.YtmeaiaecmmglnaaGreatDoorPatternIgnoredWalk
set_option linter.all false
set_option maxRecDepth 100000
namespace Go.Proofs.YtmeaiaecmmglnaaGreatDoor
open Go.RowKit
open Lib (hid)
theorem neg_text (s:ByteArray) (P S:List Itm) (hp:P.all mayI=true) (nf:NF) (h2:ShN (bts s)):bts (stz (encs (itC P))++s++stz (encs (itC S)))=encs (txC (ngP P S nf false) (bts s) [48]) ∧
 bts (stz (encs (itC P))++s++stz (encs (itC S))++⟨#[59,45]⟩++stz (encs (itC P))++⟨#[48]⟩++stz (encs (itC S)))=encs (txC (ngP P S nf true) (bts s) [48]):=by
 obtain ⟨e1,e2⟩:=ng_text hp S nf (bts s) [48]
 rw [e1,e2]
 simp only [qAF,qAB,h2.encs,qAS,qAM (qIZ (allC_it _)),List.append_assoc]
 exact ⟨trivial,rfl⟩
theorem qJK {TA s TB:ByteArray} (h1:TA.size≤700) (h2:s.size≤100) (h3:TB.size≤700):(TA++s++TB).size≤10000000000∧(TA++s++TB++⟨#[59,45]⟩++TA++⟨#[48]⟩++TB).size≤10000000000:=by
 simp only [ByteArray.size_append]
 refine ⟨by omega,?_⟩
 show TA.size+s.size+TB.size+2+TA.size+1+TB.size≤_
 omega
theorem Ptv.neg {w:World} {PV:Array Value} {P S:List Itm} {nf:NF} (h:Ptv w PV (ngP P S nf false)):Ptv w (PV.setIfInBounds 2 (.bool true)) (ngP P S nf true):=by
 obtain ⟨A0,n0,c0,A1,n1,c1,A3,n3,c3,A4,n4,c4,rfl,h0,h1,h3,h4⟩:=h
 exact ⟨A0,n0,c0,A1,n1,c1,A3,n3,c3,A4,n4,c4,pv_set2 _,h0,h1,h3,h4⟩
theorem PtM.keep {w1 W:World} {lo:Nat} {PV:Array Value} {q:Pt} (h:PtM w1 lo PV q) (hb:Below w1.heap.size w1 W) {a:Nat} (ha:a < lo∨w1.heap.size≤a) (j:Nat) (v:Value):Ptv (W.setCell ⟨a,j,none⟩ v) PV q:=by
 obtain ⟨A0,n0,c0,A1,n1,c1,A3,n3,c3,A4,n4,c4,e,h0,h1,h3,h4⟩:=h
 exact ⟨A0,n0,c0,A1,n1,c1,A3,n3,c3,A4,n4,c4,e,((h0.below hb (Nat.le_refl _)).set ha j v).its,((h1.below hb (Nat.le_refl _)).set ha j v).its,((h3.below hb (Nat.le_refl _)).set ha j v).its,((h4.below hb (Nat.le_refl _)).set ha j v).its⟩
theorem pcomp_m (s:ByteArray) (q:Pt) (w:World) (hs:s.size≤10000000000) (hM:Mw w) (hq:compZ (bts s)=(q,0,0)):Calls Tryz.prog 8 #[.string s] w fun x w'=>∃ PV,x=.returned (.tuple #[.agg PV,.agg #[.int .i64 0,.int .i64 0]])∧Hid (PtM w' w.heap.size PV q)∧Below w.heap.size w w':=by
 refine (qFX s w hs hM).mono ?_
 rw [hq]
 rintro e w' ⟨PV,rfl,h1,h2,h3⟩
 exact ⟨PV,rfl,hid (h2.out rfl),h3.out⟩
def McQ (q:Pt) (W:World) (v u:Value) (Wc:World):Prop:=∃ a PV w1,v=.pointer (some ⟨a,0,none⟩)∧u=.pointer (some ⟨a+1,0,none⟩)∧BX Wc a PV 25∧BX Wc (a+1) #[.int .i64 0,.int .i64 0] 28∧PtM w1 W.heap.size PV q∧a=w1.heap.size∧Below w1.heap.size w1 Wc∧W.heap.size≤a∧Below W.heap.size W Wc
theorem pq_new {W w1:World} {PV:Array Value} {q:Pt} (hp:PtM w1 W.heap.size PV q) (hb:Below W.heap.size W w1) :
 McQ q W (.pointer (some ⟨w1.heap.size,0,none⟩)) (.pointer (some ⟨w1.heap.size+1,0,none⟩)) ((((w1.alloc (.cells patZ 25)).alloc (.cells #[.int .i64 0,.int .i64 0] 28)).setRow w1.heap.size PV).setRow (w1.heap.size+1) #[.int .i64 0,.int .i64 0]):=by
 have hbw:Below w1.heap.size w1 ((((w1.alloc (.cells patZ 25)).alloc (.cells #[.int .i64 0,.int .i64 0] 28)).setRow w1.heap.size PV).setRow (w1.heap.size+1) #[.int .i64 0,.int .i64 0]):=
  ((((Below.refl _ _).alloc (Nat.le_refl _) _).alloc (by simp) _).setRow (Nat.le_refl _) _).setRow (Nat.le_succ _) _
 obtain ⟨a,PV',e1,e2,hpb,hbb⟩:=qCD (e:=0) (p:=0) hp.v hb
 cases e1
 exact ⟨_,PV,w1,rfl,rfl,qAV (setRow_heap _ _ _ _ _ _ ((BX.new w1 patZ _).alloc _)) (by omega),hpb.bf,hp,rfl,hbw,hb.size,hbb⟩
set_option maxHeartbeats 3000000 in
theorem qGS (A:Option Addr) (n c:Nat) (is:List Itm) (A':Option Addr) (n' c':Nat) (js:List Itm) (s:ByteArray) (w:World) (h:Its w A n is) (h':Its w A' n' js) (_hs:s.size≤140737488355328) (hM:Mw w) :
 Calls Tryz.prog 4 #[.slice A n c,.slice A' n' c',.string s] w fun e w'=>e=.returned (.bool true)∧Below w.heap.size w w':=by
 have HA:=hid (fun W (h:Mw W)=>qDU W h)
 have HM:=hid hM
 have hn:=h.2.1
 have hn':=h'.2.1
 have HL:=hid h.len
 have HL':=hid h'.len
 have HI:=hid h
 have HI':=hid h'
 have HMY:=hid (qHE A n c is w h)
 have HMY':=hid (qHE A' n' c' js w h')
 clear hM h h'
 cases hm:is.all mayI
 · rw [hm] at HMY
   clear hm
   go_enter Tryz.func4,Tryz.ntmps4
   go_wp2_with (first
    | go_skip
    | (go_at_call 11; with_reducible refine HMY.out.mono ?_; rintro e wq ⟨rfl,rfl⟩)
    | (go_at_call 7; refine (HA.out _ (HM.out)).mono ?_; rintro e wz ⟨rfl,hbz⟩)
    | fail)
   go_ret
   exact ⟨rfl,hbz⟩
 · rw [hm] at HMY
   cases hm':js.all mayI
   · rw [hm'] at HMY'
     clear hm hm'
     go_enter Tryz.func4,Tryz.ntmps4
     go_wp2_with (first
      | go_skip
      | (go_at_call 11; with_reducible refine HMY.out.mono ?_; rintro e wq ⟨rfl,rfl⟩)
      | (go_at_call 11; with_reducible refine HMY'.out.mono ?_; rintro e wq ⟨rfl,rfl⟩)
      | (go_at_call 7; refine (HA.out _ (HM.out)).mono ?_; rintro e wz ⟨rfl,hbz⟩)
      | fail)
     go_ret
     exact ⟨rfl,hbz⟩
   · rw [hm'] at HMY'
     have HMI:=hid hm;have HMJ:=hid hm';clear hm hm'
     by_cases hg1:n+n'≤39
     · have g1:decide ((39:Int) < (n:Int)+(n':Int))=false:=decide_eq_false (by omega)
       by_cases hg2:s.size≤100
       · have g2:decide ((100:Int) < (s.size:Int))=false:=decide_eq_false (by omega)
         have HN:=hid (fun W=>qH4 s W (by omega));have HSH:=hid (fun (h:(numZ (bts s)).2=0)=>show numZ (bts s)=((numZ (bts s)).1,0) from Prod.ext rfl h);have hnsz:(Tryz.prog.info? 25).map (·.size)=some (patN (numZ (bts s)).1).size:=qA0 ..;have hncs:=qA6 (numZ (bts s)).1;have hnzs:patZ.size=(patN (numZ (bts s)).1).size:=rfl;generalize hNF:(numZ (bts s)).1=nf at *;generalize hNE:(numZ (bts s)).2=ne at *;generalize patN nf=PV at HN hnsz hncs hnzs;have HNE:=hid hNE;have HLB:=hid (qA1 s);clear hNF hNE
         go_enter Tryz.func4,Tryz.ntmps4
         go_upto_region 4 with (first
          | go_skip
          | (go_at_call 11; with_reducible refine HMY.out.mono ?_; rintro e wq ⟨rfl,rfl⟩)
          | (go_at_call 11; with_reducible refine HMY'.out.mono ?_; rintro e wq ⟨rfl,rfl⟩)
          | (go_at_call 12; refine (HN.out _).mono ?_; rintro e w1 ⟨rfl,hb1⟩)
          | (refine wpList_store_row rfl 25 _ _ rfl w1.heap.size PV rfl rfl 25 patZ (BX.new w1 patZ 25) hnsz hnzs hncs ?_)
          | fail)
         change Code.wp _ _ _ _ ((w1.alloc (.cells patZ 25)).setRow w1.heap.size PV)
         have HB1:=hid (show Below w.heap.size w ((w1.alloc (.cells patZ 25)).setRow w1.heap.size PV) from (hb1.alloc hb1.size _).setRow hb1.size _);generalize (w1.alloc (.cells patZ 25)).setRow w1.heap.size PV=W1 at *;clear hb1 HN HMY HMY'
         by_cases hne:ne=0
         · have HNU:=hid (HSH.out hne)
           subst hne;have HPA:=hid (fun W (hb:Below w.heap.size w W)=>qBR A n c is W (HI.out.below hb) (by omega) HMI.out);have HPB:=hid (fun W (hb:Below w.heap.size w W)=>qBR A' n' c' js W (HI'.out.below hb) (by omega) HMJ.out);have hta:(stz (encs (itC is))).size≤700:=by
            have e:(is.map tkI).length=n:=by rw [List.length_map]; exact HL.out
            have hmt:(is.map tkI).all mayT=true:=by rw [← qAQ HMI.out]; exact qCI is
            have:=qFM (is.map tkI);rw [(qDO hmt).1,← qAQ HMI.out] at this;rw [show stz (encs (itC is))=stz (encs (nats (prt (tksI is) []))) from rfl];have e2:(tksI is).length=n:=by rw [qAQ HMI.out]; exact e
            omega
           have htb:(stz (encs (itC js))).size≤700:=by
            have e:(js.map tkI).length=n':=by rw [List.length_map]; exact HL'.out
            have hmt:(js.map tkI).all mayT=true:=by rw [← qAQ HMJ.out]; exact qCI js
            have:=qFM (js.map tkI);rw [(qDO hmt).1,← qAQ HMJ.out] at this;rw [show stz (encs (itC js))=stz (encs (nats (prt (tksI js) []))) from rfl];have e2:(tksI js).length=n':=by rw [qAQ HMJ.out]; exact e
            omega
           have HT:=hid (neg_text s is js HMI.out nf (qDC HNU.out));have HC1:=hid (ng_comp HMI.out HMJ.out (by rw [HL.out,HL'.out]; exact hg1) HNU.out (by rw [HLB.out]; exact hg2) false);have HC2:=hid (ng_comp HMI.out HMJ.out (by rw [HL.out,HL'.out]; exact hg1) HNU.out (by rw [HLB.out]; exact hg2) true);rw [← HT.out.1] at HC1;rw [← HT.out.2] at HC2;have HC1:=hid (HC1.out.trans (show (ngP is js nf false).mix=if (ngP is js nf false).has 4 && (ngP is js nf false).has 5 then ({},6,0) else (ngP is js nf false,0,0) from rfl));have HC2:=hid (HC2.out.trans (ng_mix is js nf));clear HT;generalize stz (encs (itC is))=TA at *;generalize stz (encs (itC js))=TB at *;generalize ((ngP is js nf false).has 4 && (ngP is js nf false).has 5)=M at *
           go_upto_region 7 with (first
            | go_skip
            | (go_at_call 13; with_reducible refine (HPA.out _ HB1.out).mono ?_; rintro e w2 ⟨rfl,hb2⟩; have HB2:=hid (HB1.out.trans (hb2.mono HB1.out.size)); clear HPA)
            | (go_at_call 13; with_reducible refine (HPB.out _ HB2.out).mono ?_; rintro e w3 ⟨rfl,hb3⟩; have HB3:=hid (HB2.out.trans (hb3.mono HB2.out.size)))
            | fail)
           clear hb2 hb3 HPB
           cases M
           · have HC1:=hid (HC1.out.trans (if_neg (by decide)))
             have HC2:=hid (HC2.out.trans (if_neg (by decide)));have HP1:=hid (fun W (h:Mw W)=>pcomp_m (TA++s++TB) (ngP is js nf false) W (qJK hta hg2 htb).1 h HC1.out);have HP2:=hid (fun W (h:Mw W)=>pcomp_m _ (ngP is js nf true) W (by simp only [ByteArray.size_append]; show TA.size+s.size+TB.size+2+TA.size+1+TB.size≤_; omega) h HC2.out);clear HC1 HC2
             go_cut [11,12] (McQ (ngP is js nf false) w3)
             case first=>
              go_wp2_with (first
               | go_skip
               | (go_at_call 8; refine (HP1.out _ (HM.out.below HB3.out)).mono ?_; rintro e w1 ⟨PV,rfl,hpt,hb1⟩; obtain ⟨hsz,h20,hce⟩:=hpt.out.v.sz)
               | (refine wpList_store_row rfl 25 _ _ rfl w1.heap.size PV rfl rfl 25 patZ ((BX.new w1 patZ 25).alloc _) hsz h20 hce ?_)
               | (refine wpList_store_row rfl 28 _ _ rfl (w1.heap.size+1) #[.int .i64 _,.int .i64 _] rfl rfl 28 _ (pb_f PV) (qA2 _ _) rfl (qA4 _ _) ?_)
               | fail)
              go_meet
              exact pq_new hpt.out hb1
             case rest=>
             obtain ⟨a1,PVa,w9,rfl,rfl,hq1,hq2,hq3,hq4,hq5,hla,hbc⟩:=hcut;have HQ:=hid (And.intro hq1 (And.intro hq2 (And.intro hq3 (And.intro hq4 hq5))));have HBA:=hid hbc;clear hq1 hq2 hq3 hq4 hq5 hbc;go_step;go_step
             go_cut [13,14] (McQ (ngP is js nf true) wc)
             case first=>
              go_wp2_with (first
               | go_skip
               | (go_at_call 8; refine (HP2.out _ (HM.out.below (HB3.out.trans (HBA.out.mono HB3.out.size)))).mono ?_; rintro e w1 ⟨PV,rfl,hpt,hb1⟩; obtain ⟨hsz,h20,hce⟩:=hpt.out.v.sz)
               | (refine wpList_store_row rfl 25 _ _ rfl w1.heap.size PV rfl rfl 25 patZ ((BX.new w1 patZ 25).alloc _) hsz h20 hce ?_)
               | (refine wpList_store_row rfl 28 _ _ rfl (w1.heap.size+1) #[.int .i64 _,.int .i64 _] rfl rfl 28 _ (pb_f PV) (qA2 _ _) rfl (qA4 _ _) ?_)
               | fail)
              go_meet
              exact pq_new hpt.out hb1
             case rest=>
             obtain ⟨b1,PVb,w8,rfl,rfl,hq1,hq2,hq3,hq4,hq5,hlb,hbc⟩:=hcut;have HQB:=hid (And.intro hq1 (And.intro hq2 (And.intro hq3 (And.intro hq4 hq5))));have HBB:=hid hbc;clear hq1 hq2 hq3 hq4 hq5 hbc;go_step;obtain ⟨hbx,hbf,hpt,hae,hbw⟩:=HQ.out;obtain ⟨kbx,kbf,kpt,kae,kbw⟩:=HQB.out;have hza:w9.heap.size≤wc.heap.size:=by have:=HBB.out.size; have:=hbx.lt; omega
             have HBXa:=hid (hbx.below HBB.out hbx.lt);have HBFa:=hid (hbf.below HBB.out hbf.lt);have haW:=hbx.lt;have hPa:=hid (hpt.keep (hbw.trans (HBB.out.mono (by omega))) (a:=a1) (.inr (Nat.le_of_eq hae.symm)) 2 (.bool true));have hPb:=hid (kpt.keep kbw (a:=a1) (.inl (by omega)) 2 (.bool true));have HPBx:=hid kbx;have HPBf:=hid kbf;have HPAv:=hid hpt.v;have HBW:=hid ((HB3.out.trans (HBA.out.mono HB3.out.size)).trans (HBB.out.mono (Nat.le_trans HB3.out.size HBA.out.size)));clear hbx hbf hpt hae hbw HQ kbx kbf kpt kae kbw HQB HBA HP1 HP2 HBB;have q0:=HBFa.out.c 0;have q1:=HBFa.out.c 1;have z0:=HPBf.out.c 0;have z1:=HPBf.out.c 1;have hc2:∃ v,wc.cell? ⟨a1,2,none⟩=some v:=by
              obtain ⟨A0,n0,c0,A1,n1,c1,A3,n3,c3,A4,n4,c4,e,-⟩:=HPAv.out;refine ⟨.bool false,?_⟩;rw [HBXa.out.c 2,e]; rfl
             obtain ⟨v2,hc2⟩:=hc2;have f2:=HBXa.out.fr 2
             go_upto_region 12 with (first | go_skip | fail)
             have HBX2:Hid (BX (wc.setCell ⟨a1,2,none⟩ (.bool true)) a1 (PVa.setIfInBounds 2 (.bool true)) 25):=hid (heap_setCell_same wc a1 2 _ _ (.bool true) HBXa.out);have hab:a1≠b1:=by omega
             have hab2:a1≠b1+1:=by omega
             have HPT2:=hid hPa.out.neg;have HPTb:=hPb;have HBXb:=hid ((heap_setCell_other wc ⟨a1,2,none⟩ b1 (.bool true) (Ne.symm hab)).trans HPBx.out);have HBW2:=hid (HBW.out.setCell (p:=⟨a1,2,none⟩) (by have:=HB3.out.size; show w.heap.size≤a1; omega) (.bool true));obtain ⟨A0,n0,c0,A1,n1,c1,A3,n3,c3,A4,n4,c4,ePV,k0,k1,-⟩:=HPT2.out;have HK0:=hid k0;have HK1:=hid k1;have HE:=hid ePV;generalize PVa.setIfInBounds 2 (.bool true)=PVx at *;generalize wc.setCell ⟨a1,2,none⟩ (.bool true)=V at *;clear HBXa HBFa hPa HPAv hc2 f2 q0 q1 z0 z1 k0 k1 ePV HPBf HPBx;have HS0:=hid (fun W (hb:Below V.heap.size V W)=>qGK A0 A n0 c0 n c is is W (HK0.out.below hb) ((HI.out.below HBW2.out).below hb));have HS1:=hid (fun W (hb:Below V.heap.size V W)=>qGK A1 A' n1 c1 n' c' js js W (HK1.out.below hb) ((HI'.out.below HBW2.out).below hb));have e0:PVx[0]? = some (.slice A0 n0 c0):=by rw [HE.out]; rfl
             have e1:PVx[1]? = some (.slice A1 n1 c1):=by rw [HE.out]; rfl
             have EE:=hid (And.intro e0 e1);clear e0 e1
             go_wp2_with (first
              | go_skip
              | (go_at_call 7; refine (HA.out _ (HM.out.below HBW2.out)).mono ?_; rintro e w5 ⟨rfl,hb5⟩; have HB5:=hid hb5; have hka:=BX.below HBX2.out hb5 (BX.lt HBX2.out); have hkb:=BX.below HBXb.out hb5 (BX.lt HBXb.out); have HPa5:=hid (HPT2.out.below hb5); have HPb5:=hid (HPTb.out.below hb5); have s0:=HPa5.out.sz.1; have s1:=HPb5.out.sz.1)
              | (refine qAI rfl 25 _ rfl a1 rfl 25 PVx (0,0) _ hka Tryz.underlying25 rfl s0 ?_)
              | (refine qAI rfl 25 _ rfl b1 rfl 25 PVb (0,0) _ hkb Tryz.underlying25 rfl s1 ?_)
              | (go_at_call 10; refine (qJS PVx PVb _ _ HPa5.out HPb5.out).mono ?_; rintro e w6 ⟨rfl,hb6⟩; have HB6:=hid (HB5.out.trans (hb6.mono HB5.out.size)); have hka6:=BX.below HBX2.out HB6.out (BX.lt HBX2.out); have y0:=(BX.c hka6 0).trans EE.out.1)
              | (go_at_call 14; with_reducible refine (HS0.out _ HB6.out).mono ?_; rintro e w7 ⟨rfl,hb7⟩; have HB7:=hid (HB6.out.trans (hb7.mono HB6.out.size)); have hka7:=BX.below HBX2.out HB7.out (BX.lt HBX2.out); have y1:=(BX.c hka7 1).trans EE.out.2; have d1:decide (is=is)=true:=decide_eq_true rfl; have d2:decide (js=js)=true:=decide_eq_true rfl)
              | (go_at_call 14; with_reducible refine (HS1.out _ HB7.out).mono ?_; rintro e w8 ⟨rfl,hb8⟩)
              | fail)
             go_ret
             exact ⟨by simp,HBW2.out.trans ((HB7.out.trans (hb8.mono HB7.out.size)).mono HBW2.out.size)⟩
           · have HC1:=hid (HC1.out.trans (if_pos rfl))
             have HC2:=hid (HC2.out.trans (if_pos rfl));have HP1:=hid (fun W (h:Mw W)=>qD5 (TA++s++TB) W (qJK hta hg2 htb).1 h);have HP2:=hid (fun W (h:Mw W)=>qD5 (TA++s++TB++⟨#[59,45]⟩++TA++⟨#[48]⟩++TB) W (qJK hta hg2 htb).2 h);rw [HC1.out] at HP1;rw [HC2.out] at HP2;clear HC1 HC2
             go_cut [11,12] (McP {} 6 0 w3)
             case first=>
              go_wp2_with (first
               | go_skip
               | (go_at_call 8; refine (HP1.out _ (HM.out.below HB3.out)).mono ?_; rintro e w1 ⟨PV,rfl,hpt,hb1⟩; obtain ⟨hsz,h20,hce⟩:=hpt.out.sz)
               | (refine wpList_store_row rfl 25 _ _ rfl w1.heap.size PV rfl rfl 25 patZ ((BX.new w1 patZ 25).alloc _) hsz h20 hce ?_)
               | (refine wpList_store_row rfl 28 _ _ rfl (w1.heap.size+1) #[.int .i64 _,.int .i64 _] rfl rfl 28 _ (pb_f PV) (qA2 _ _) rfl (qA4 _ _) ?_)
               | fail)
              go_meet
              exact qCD hpt.out hb1
             case rest=>
             obtain ⟨a1,PVa,rfl,rfl,hpb,hbc⟩:=hcut;have HPA:=hid hpb;have HBA:=hid hbc;clear hpb hbc;go_step;go_step
             go_cut [13,14] (McP {} 6 0 wc)
             case first=>
              go_wp2_with (first
               | go_skip
               | (go_at_call 8; refine (HP2.out _ (HM.out.below (HB3.out.trans (HBA.out.mono HB3.out.size)))).mono ?_; rintro e w1 ⟨PV,rfl,hpt,hb1⟩; obtain ⟨hsz,h20,hce⟩:=hpt.out.sz)
               | (refine wpList_store_row rfl 25 _ _ rfl w1.heap.size PV rfl rfl 25 patZ ((BX.new w1 patZ 25).alloc _) hsz h20 hce ?_)
               | (refine wpList_store_row rfl 28 _ _ rfl (w1.heap.size+1) #[.int .i64 _,.int .i64 _] rfl rfl 28 _ (pb_f PV) (qA2 _ _) rfl (qA4 _ _) ?_)
               | fail)
              go_meet
              exact qCD hpt.out hb1
             case rest=>
             obtain ⟨b1,PVb,rfl,rfl,hpb,hbc⟩:=hcut;have HPB:=hid hpb;have HBB:=hid hbc;clear hpb hbc;go_step;have HBW:=hid ((HB3.out.trans (HBA.out.mono HB3.out.size)).trans (HBB.out.mono (Nat.le_trans HB3.out.size HBA.out.size)));have HPA:=hid (HPA.out.below HBB.out);clear HBA HP1 HP2 HBB;have q0:=HPA.out.bf.c 0;have q1:=HPA.out.bf.c 1;have z0:=HPB.out.bf.c 0;have z1:=HPB.out.bf.c 1
             go_wp2_with (first
              | go_skip
              | (go_at_call 7; refine (HA.out _ (HM.out.below HBW.out)).mono ?_; rintro e w5 ⟨rfl,hb5⟩; have HPA5:=hid (HPA.out.below hb5); have HPB5:=hid (HPB.out.below hb5); have q0:=HPA5.out.bf.c 0; have q1:=HPA5.out.bf.c 1; have z0:=HPB5.out.bf.c 0; have z1:=HPB5.out.bf.c 1)
              | fail)
             go_ret
             exact ⟨rfl,HBW.out.trans (hb5.mono HBW.out.size)⟩
         · have gp:(((ne:Nat):Int) != 0)=true:=by rw [bne_iff_ne]; omega
           go_wp2_with (first
            | go_skip
            | (go_at_call 7; refine (HA.out _ (HM.out.below HB1.out)).mono ?_; rintro e wz ⟨rfl,hbz⟩)
            | fail)
           go_ret
           exact ⟨rfl,HB1.out.trans (hbz.mono HB1.out.size)⟩
       · have g2:decide ((100:Int) < (s.size:Int))=true:=decide_eq_true (by omega)
         go_enter Tryz.func4,Tryz.ntmps4
         go_wp2_with (first
          | go_skip
          | (go_at_call 11; with_reducible refine HMY.out.mono ?_; rintro e wq ⟨rfl,rfl⟩)
          | (go_at_call 11; with_reducible refine HMY'.out.mono ?_; rintro e wq ⟨rfl,rfl⟩)
          | (go_at_call 7; refine (HA.out _ (HM.out)).mono ?_; rintro e wz ⟨rfl,hbz⟩)
          | fail)
         go_ret
         exact ⟨rfl,hbz⟩
     · have g1:decide ((39:Int) < (n:Int)+(n':Int))=true:=decide_eq_true (by omega)
       go_enter Tryz.func4,Tryz.ntmps4
       go_wp2_with (first
        | go_skip
        | (go_at_call 11; with_reducible refine HMY.out.mono ?_; rintro e wq ⟨rfl,rfl⟩)
        | (go_at_call 11; with_reducible refine HMY'.out.mono ?_; rintro e wq ⟨rfl,rfl⟩)
        | (go_at_call 7; refine (HA.out _ (HM.out)).mono ?_; rintro e wz ⟨rfl,hbz⟩)
        | fail)
       go_ret
       exact ⟨rfl,hbz⟩
end Go.Proofs.YtmeaiaecmmglnaaGreatDoor
