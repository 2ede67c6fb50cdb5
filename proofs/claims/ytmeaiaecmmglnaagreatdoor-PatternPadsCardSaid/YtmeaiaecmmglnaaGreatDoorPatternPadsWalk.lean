import Derived.BigQuiet
import Derived.Deep.DeepCutAuto
import Derived.Test.YtmeaiaecmmglnaaGreatDoorSL
set_option linter.all false
set_option maxRecDepth 100000
namespace Go.Proofs.YtmeaiaecmmglnaaGreatDoor
open Go.RowKit
open Lib (hid)
theorem qH5 {c:Nat} (h39:c≠39) (N:List Nat):hfC 1 (c:Int) [(1,97)] N [(1,98)]=[42,c]++([97]++(N++[98]))∧hfC 2 (c:Int) [(1,97)] N [(1,98)]=[97]++([42,c]++(N++[98])) ∧
 hfC 3 (c:Int) [(1,97)] N [(1,98)]=[97]++(N++([42,c]++[98]))∧hfC 4 (c:Int) [(1,97)] N [(1,98)]=[97]++(N++([98]++[42,c])):=by
 have h:¬ ((c:Int)=39):=by omega
 simp [hfC,padC,itC_a,itC_b,if_neg h]
def qAY (c:Nat):ByteArray:=⟨#[42]⟩++stz (encN c)
theorem qFT {c:Nat} (hc:isC c=true):bts (qAY c)=encs [42,c]:=by
 rw [qAY,qAS,qAM (qC0 hc)]
 simp [encs]; rfl
theorem star_size (c:Nat):(qAY c).size≤5:=by
 have:=qF7 c
 rw [qAY,ByteArray.size_append,qAC]
 show 1+_≤_
 omega
theorem qEF (x:Nat) (hx:x < 128):encs [x]=[x]:=by
 rw [qGY]
 rcases qB3 x with ⟨_,h⟩ | ⟨h',_⟩ | ⟨h',_⟩ | ⟨h',_⟩
 · exact h
 all_goals omega
theorem pads_bts0 {c:Nat} (hc:isC c=true) (h39:c≠39) {s:ByteArray} (h:ShN (bts s)):bts (qAY c++⟨#[97]⟩++⟨#[]⟩++s++⟨#[]⟩++⟨#[98]⟩++⟨#[]⟩)=encs (hfC 1 (c:Int) [(1,97)] (bts s) [(1,98)]):=by
 rw [(qH5 h39 (bts s)).1]
 simp only [qAS,qFT hc,qAF,h.encs,qEF 97 (by decide),qEF 98 (by decide),show bts (⟨#[]⟩:ByteArray)=[] from rfl,show bts (⟨#[97]⟩:ByteArray)=[97] from rfl,show bts (⟨#[98]⟩:ByteArray)=[98] from rfl,List.append_nil,List.nil_append,List.append_assoc]
theorem pads_bts1 {c:Nat} (hc:isC c=true) (h39:c≠39) {s:ByteArray} (h:ShN (bts s)):bts (⟨#[]⟩++⟨#[97]⟩++qAY c++s++⟨#[]⟩++⟨#[98]⟩++⟨#[]⟩)=encs (hfC 2 (c:Int) [(1,97)] (bts s) [(1,98)]):=by
 rw [(qH5 h39 (bts s)).2.1]
 simp only [qAS,qFT hc,qAF,h.encs,qEF 97 (by decide),qEF 98 (by decide),show bts (⟨#[]⟩:ByteArray)=[] from rfl,show bts (⟨#[97]⟩:ByteArray)=[97] from rfl,show bts (⟨#[98]⟩:ByteArray)=[98] from rfl,List.append_nil,List.nil_append,List.append_assoc]
theorem pads_bts2 {c:Nat} (hc:isC c=true) (h39:c≠39) {s:ByteArray} (h:ShN (bts s)):bts (⟨#[]⟩++⟨#[97]⟩++⟨#[]⟩++s++qAY c++⟨#[98]⟩++⟨#[]⟩)=encs (hfC 3 (c:Int) [(1,97)] (bts s) [(1,98)]):=by
 rw [(qH5 h39 (bts s)).2.2.1]
 simp only [qAS,qFT hc,qAF,h.encs,qEF 97 (by decide),qEF 98 (by decide),show bts (⟨#[]⟩:ByteArray)=[] from rfl,show bts (⟨#[97]⟩:ByteArray)=[97] from rfl,show bts (⟨#[98]⟩:ByteArray)=[98] from rfl,List.append_nil,List.nil_append,List.append_assoc]
theorem pads_bts3 {c:Nat} (hc:isC c=true) (h39:c≠39) {s:ByteArray} (h:ShN (bts s)):bts (⟨#[]⟩++⟨#[97]⟩++⟨#[]⟩++s++⟨#[]⟩++⟨#[98]⟩++qAY c)=encs (hfC 4 (c:Int) [(1,97)] (bts s) [(1,98)]):=by
 rw [(qH5 h39 (bts s)).2.2.2]
 simp only [qAS,qFT hc,qAF,h.encs,qEF 97 (by decide),qEF 98 (by decide),show bts (⟨#[]⟩:ByteArray)=[] from rfl,show bts (⟨#[97]⟩:ByteArray)=[97] from rfl,show bts (⟨#[98]⟩:ByteArray)=[98] from rfl,List.append_nil,List.nil_append,List.append_assoc]
theorem pads_c {c:Nat} (hc:isC c=true) {N:List Nat} {n:NF} (h:numZ N=(n,0)) (hl:N.length≤100) {at_:Int} (h1:1≤at_) (h4:at_≤4) (T:ByteArray) (w:World) (hT:bts T=encs (hfC at_ (c:Int) [(1,97)] N [(1,98)])) (hs:T.size≤10000000000) (hM:Mw w) :
 Calls Tryz.prog 8 #[.string T] w fun x w'=>∃ PV,x=.returned (.tuple #[.agg PV,.agg #[.int .i64 0,.int .i64 0]])∧Hid (Ptv w' PV (pdP n N.length at_ (c:Int)))∧Below w.heap.size w w':=by
 have hz:isZ (c:Int)=true:=by rw [qBG]; exact hc
 have hC:=pdP_comp h hl h1 h4 hz
 rw [← hT] at hC
 refine (qD5 T w hs hM).mono ?_
 rw [hC]
 exact fun e w' x=>x
theorem qH6 {c:Nat} (hc:isC c=true) (h39:c≠39) {N:List Nat} {n:NF} (h:numZ N=(n,0)) (hl:N.length≤100) {at_:Int} (h1:1≤at_) (h4:at_≤4) {S:ByteArray} (hS:bts S=encs (hfC at_ (c:Int) [(1,97)] N [(1,98)])) :
 (compZ (bts (S++qAY c))).2.1=7∧(at_≠4→(compZ (bts (S++qAY c))).2.2=(S.size:Int)):=by
 have hp:=pad_twice h hl h1 h4 hc h39
 have e:bts (S++qAY c)=encs (hfC at_ (c:Int) [(1,97)] N [(1,98)]++[42,c]):=by rw [qAS,hS,qFT hc,qAF]
 rw [← e,← hS,qA1] at hp
 exact hp
theorem pt_cells {w:World} {PV:Array Value} {q:Pt} (h:Ptv w PV q):PV[17]? = some (.int .i64 q.at_)∧PV[18]? = some (.int .i32 q.pad)∧PV[19]? = some (.int .i64 ((q.width:Nat):Int)):=by
 obtain ⟨A0,n0,c0,A1,n1,c1,A3,n3,c3,A4,n4,c4,e,-⟩:=h
 rw [e]
 exact ⟨rfl,rfl,rfl⟩
theorem qER {w:World} {a:Nat} {PV:Array Value} {nf:NF} {len m:Nat} {at_ pad e p:Int} (h:PB w a PV e p (pdP nf len at_ pad)) (hl:len=m) :
 w.cell? ⟨a,17,none⟩=some (.int .i64 at_)∧w.cell? ⟨a,18,none⟩=some (.int .i32 pad)∧w.cell? ⟨a,19,none⟩=some (.int .i64 ((m:Int)+2)):=by
 obtain ⟨h1,h2,h3⟩:=pt_cells h.pt
 subst hl
 exact ⟨(h.bp.c 17).trans h1,(h.bp.c 18).trans h2,(h.bp.c 19).trans h3⟩
set_option maxHeartbeats 8000000 in
theorem qGT (r a:Int) (s:ByteArray) (tw:Bool) (w:World) (hr : -2147483648≤r∧r≤2147483647) (ha:0≤a∧a≤255) (_hs:s.size≤140737488355328) (hM:Mw w) :
 Calls Tryz.prog 6 #[.int .i32 r,.int .u8 a,.string s,.bool tw] w fun e w'=>e=.returned (.bool true)∧Below w.heap.size w w':=by
 have HA:=hid (fun W (h:Mw W)=>qDU W h)
 have HM:=hid hM
 clear hM
 rcases hz:isZ r with _ | _
 · have hsc:=hid (fun W=>qAT r W)
   rw [hz] at hsc;clear hz
   go_enter Tryz.func6,Tryz.ntmps6
   go_wp2_with (first
    | go_skip
    | (go_at_call 15; refine (hsc.out _).mono ?_; rintro e wq ⟨rfl,rfl⟩)
    | (go_at_call 7; refine (HA.out _ (HM.out.below (Below.refl _ _))).mono ?_; rintro e wz ⟨rfl,hbz⟩)
    | fail)
   go_ret
   exact ⟨rfl,hbz⟩
 have hz0:=hz
 obtain ⟨c,rfl,-⟩:=qCV hz
 have hc:isC c=true:=by rw [← qBG]; exact hz0
 have hsc:=hid (fun W=>qAT (c:Int) W)
 rw [hz] at hsc
 clear hz hz0
 by_cases h39:c=39
 · subst h39
   go_enter Tryz.func6,Tryz.ntmps6
   go_wp2_with (first
    | go_skip
    | (go_at_call 15; refine (hsc.out _).mono ?_; rintro e wq ⟨rfl,rfl⟩)
    | (go_at_call 7; refine (HA.out _ (HM.out.below (Below.refl _ _))).mono ?_; rintro e wz ⟨rfl,hbz⟩)
    | fail)
   go_ret
   exact ⟨rfl,hbz⟩
 have g39:((c:Int) == 39)=false:=by simp; omega
 by_cases h100:100 < s.size
 · have g1:decide ((100:Int) < (s.size:Int))=true:=decide_eq_true (by omega)
   clear h100
   go_enter Tryz.func6,Tryz.ntmps6
   go_wp2_with (first
    | go_skip
    | (go_at_call 15; refine (hsc.out _).mono ?_; rintro e wq ⟨rfl,rfl⟩)
    | (go_at_call 7; refine (HA.out _ (HM.out.below (Below.refl _ _))).mono ?_; rintro e wz ⟨rfl,hbz⟩)
    | fail)
   go_ret
   exact ⟨rfl,hbz⟩
 have g1:decide ((100:Int) < (s.size:Int))=false:=decide_eq_false (by omega)
 have HN:=hid (fun W=>qH4 s W (by omega))
 have hnsz:(Tryz.prog.info? 25).map (·.size)=some (patN (numZ (bts s)).1).size:=qA0 ..
 have hncs:=qA6 (numZ (bts s)).1
 have hnzs:patZ.size=(patN (numZ (bts s)).1).size:=rfl
 have HSH:=hid (fun (h:(numZ (bts s)).2=0)=>show numZ (bts s)=((numZ (bts s)).1,0) from Prod.ext rfl h)
 have HLB:=hid (qA1 s)
 have h100':s.size≤100:=by omega
 generalize hNF:(numZ (bts s)).1=nf at HN hnsz hncs hnzs HSH
 generalize hNE:(numZ (bts s)).2=ne at HN HSH
 generalize patN nf=PV at HN hnsz hncs hnzs
 clear hNF hNE h100
 go_enter Tryz.func6,Tryz.ntmps6
 go_upto_region 4 with (first
  | go_skip
  | (go_at_call 15; refine (hsc.out _).mono ?_; rintro e wq ⟨rfl,rfl⟩)
  | (go_at_call 12; refine (HN.out _).mono ?_; rintro e w1 ⟨rfl,hb1⟩)
  | (refine wpList_store_row rfl 25 _ _ rfl w1.heap.size PV rfl rfl 25 patZ (BX.new w1 patZ 25) hnsz hnzs hncs ?_)
  | fail)
 change Code.wp _ _ _ _ ((w1.alloc (.cells patZ 25)).setRow w1.heap.size PV)
 have HB1:=hid (show Below w.heap.size w ((w1.alloc (.cells patZ 25)).setRow w1.heap.size PV) from (hb1.alloc hb1.size _).setRow hb1.size _)
 generalize (w1.alloc (.cells patZ 25)).setRow w1.heap.size PV=W1 at *
 clear hb1 HN hsc hnsz hncs hnzs
 by_cases hne:ne=0
 case neg=>
  have gne:decide ((ne:Int)=0)=false:=decide_eq_false (by omega);have gne2:((ne:Int) == 0)=false:=by simp; omega
  clear hne
  go_wp2_with (first
   | go_skip
   | (go_at_call 7; refine (HA.out _ (HM.out.below HB1.out)).mono ?_; rintro e wz ⟨rfl,hbz⟩)
   | fail)
  go_ret
  exact ⟨rfl,HB1.out.trans (hbz.mono HB1.out.size)⟩
 have HNU:=hid (HSH.out hne)
 have HSN:=hid (qDC HNU.out)
 subst hne
 have HC:=hid hc
 have H39:=hid h39
 have HBY:=hid (fun W=>qBJ c W hc)
 have HLt:=hid (qC0 hc)
 have hle:=qF7 c
 have hez:(stz (encN c)).size≤4:=by rw [qAC]; exact hle
 clear HSH hc h39
 go_upto_region 7 with (first
  | go_skip
  | (go_at_call 16; refine (HBY.out _).mono ?_; rintro e w3 ⟨A3,m3,c3,rfl,ho3,hm3,hb3⟩; have hcv:=qAZ ho3 HLt.out; clear ho3 hm3)
  | fail)
 have HB3:=hid (HB1.out.trans (hb3.mono HB1.out.size))
 clear hb3 HBY HLt hle hez HB1 hcv
 generalize hst:(⟨#[42]⟩++stz (encN c):ByteArray)=st at *
 obtain rfl:qAY c=st:=hst
 have hs5:=star_size c
 have hmod:a.tmod 4=a % 4:=Int.tmod_eq_emod_of_nonneg ha.1
 have HL100:=hid (show (bts s).length≤100 by rw [HLB.out]; exact h100')
 have hj:a % 4=0∨a % 4=1∨a % 4=2∨a % 4=3:=by omega
 rcases hj with hj | hj | hj | hj
 · rw [hj] at hmod
   clear hj;have HPB:=hid (pads_bts0 HC.out H39.out HSN.out)
   go_upto_region 10 with (first | go_skip | fail)
   have hbl:=(Below.refl w3.heap.size w3).alloc (Nat.le_refl _) (.cells #[.string (qAY c),.string ⟨#[]⟩,.string ⟨#[]⟩,.string ⟨#[]⟩] 9);have HB5:=hid (HB3.out.trans (hbl.mono HB3.out.size));have hbx:=BX.new w3 #[.string (qAY c),.string ⟨#[]⟩,.string ⟨#[]⟩,.string ⟨#[]⟩] 9;have y0:=hbx.c 0;have y1:=hbx.c 1;have y2:=hbx.c 2;have y3:=hbx.c 3;have hbg:=hbx.lt;clear hbl hbx hmod;generalize w3.heap.size=g at *;generalize w3.alloc (.cells #[.string (qAY c),.string ⟨#[]⟩,.string ⟨#[]⟩,.string ⟨#[]⟩] 9)=W5 at *
   go_quiet (fail)
   have HB6:=hid (HB5.out.trans (⟨rfl,rfl,rfl,Nat.le_refl _,fun _ _=>rfl⟩:Below w.heap.size W5 (W5.drewN nq)));clear HB5 y0 y1 y2 y3 hbg;generalize W5.drewN nq=W6 at *;have hTs:(qAY c++⟨#[97]⟩++⟨#[]⟩++s++⟨#[]⟩++⟨#[98]⟩++⟨#[]⟩:ByteArray).size≤300:=by
    simp only [ByteArray.size_append]
    show _≤_
    have e0:(⟨#[]⟩:ByteArray).size=0:=rfl;have e1:(⟨#[97]⟩:ByteArray).size=1:=rfl;have e2:(⟨#[98]⟩:ByteArray).size=1:=rfl;omega
   generalize (qAY c++⟨#[97]⟩++⟨#[]⟩++s++⟨#[]⟩++⟨#[98]⟩++⟨#[]⟩:ByteArray)=T at *
   cases tw
   · have HP:=hid (fun W (h:Mw W)=>pads_c HC.out HNU.out HL100.out (at_:=1) (by decide) (by decide) T W HPB.out (by omega) h)
     go_upto_region 16 with (first | go_skip | fail)
     go_cut [17,18] (McP (pdP nf (bts s).length 1 (c:Int)) 0 0 W6)
     case first=>
      go_wp2_with (first
       | go_skip
       | (go_at_call 8; refine (HP.out _ (HM.out.below HB6.out)).mono ?_; rintro e w1 ⟨PV,rfl,hpt,hb1⟩; obtain ⟨hsz,h20,hce⟩:=hpt.out.sz)
       | (refine wpList_store_row rfl 25 _ _ rfl w1.heap.size PV rfl rfl 25 patZ ((BX.new w1 patZ 25).alloc _) hsz h20 hce ?_)
       | (refine wpList_store_row rfl 28 _ _ rfl (w1.heap.size+1) #[.int .i64 _,.int .i64 _] rfl rfl 28 _ (pb_f PV) (qA2 _ _) rfl (qA4 _ _) ?_)
       | fail)
      go_meet
      exact qCD hpt.out hb1
     case rest=>
     obtain ⟨a1,PVa,rfl,rfl,hpb,hbc⟩:=hcut;have HPA:=hid hpb;have HBA:=hid (HB6.out.trans (hbc.mono HB6.out.size));clear hpb hbc HP;have gcc:((c:Int) == (c:Int))=true:=by simp
     have gss:((s.size:Int)+2 == (s.size:Int)+2)=true:=by simp
     go_wp2_with (first
      | go_skip
      | (go_at_call 7; refine (HA.out _ (HM.out.below HBA.out)).mono ?_; rintro e wz ⟨rfl,hbz⟩; have HZ:=hid (HPA.out.below hbz); have y0:=HZ.out.bf.c 0; obtain ⟨y17,y18,y19⟩:=qER HZ.out HLB.out)
      | fail)
     go_ret
     exact ⟨rfl,HBA.out.trans (hbz.mono HBA.out.size)⟩
   · have HP:=hid (fun W (h:Mw W)=>qD5 (T++qAY c) W (by rw [ByteArray.size_append]; omega) h)
     have HTW:=hid (qH6 HC.out H39.out HNU.out HL100.out (at_:=1) (by decide) (by decide) HPB.out);rw [HTW.out.1] at HP;have HTP:=hid HTW.out.2;generalize compZ (bts (T++qAY c))=CC at *;clear HTW;obtain ⟨q,e7,p⟩:=CC;dsimp only at HP HTP;obtain rfl:=HTP.out (by decide)
     go_upto_region 12 with (first | go_skip | fail)
     go_cut [15,16] (McP q 7 (T.size:Int) W6)
     case first=>
      go_wp2_with (first
       | go_skip
       | (go_at_call 8; refine (HP.out _ (HM.out.below HB6.out)).mono ?_; rintro e w1 ⟨PV,rfl,hpt,hb1⟩; obtain ⟨hsz,h20,hce⟩:=hpt.out.sz)
       | (refine wpList_store_row rfl 25 _ _ rfl w1.heap.size PV rfl rfl 25 patZ ((BX.new w1 patZ 25).alloc _) hsz h20 hce ?_)
       | (refine wpList_store_row rfl 28 _ _ rfl (w1.heap.size+1) #[.int .i64 _,.int .i64 _] rfl rfl 28 _ (pb_f PV) (qA2 _ _) rfl (qA4 _ _) ?_)
       | fail)
      go_meet
      exact qCD hpt.out hb1
     case rest=>
     obtain ⟨a1,PVa,rfl,rfl,hpb,hbc⟩:=hcut;have HPA:=hid hpb;have HBA:=hid (HB6.out.trans (hbc.mono HB6.out.size));clear hpb hbc HP;have gtt:((T.size:Int) == (T.size:Int))=true:=by simp
     go_wp2_with (first
      | go_skip
      | (go_at_call 7; refine (HA.out _ (HM.out.below HBA.out)).mono ?_; rintro e wz ⟨rfl,hbz⟩; have HZ:=hid (HPA.out.below hbz); have y0:=HZ.out.bf.c 0; have y1:=HZ.out.bf.c 1)
      | fail)
     go_ret
     exact ⟨rfl,HBA.out.trans (hbz.mono HBA.out.size)⟩
 · rw [hj] at hmod
   clear hj;have HPB:=hid (pads_bts1 HC.out H39.out HSN.out)
   go_upto_region 10 with (first | go_skip | fail)
   have hbl:=(Below.refl w3.heap.size w3).alloc (Nat.le_refl _) (.cells #[.string ⟨#[]⟩,.string (qAY c),.string ⟨#[]⟩,.string ⟨#[]⟩] 9);have HB5:=hid (HB3.out.trans (hbl.mono HB3.out.size));have hbx:=BX.new w3 #[.string ⟨#[]⟩,.string (qAY c),.string ⟨#[]⟩,.string ⟨#[]⟩] 9;have y0:=hbx.c 0;have y1:=hbx.c 1;have y2:=hbx.c 2;have y3:=hbx.c 3;have hbg:=hbx.lt;clear hbl hbx hmod;generalize w3.heap.size=g at *;generalize w3.alloc (.cells #[.string ⟨#[]⟩,.string (qAY c),.string ⟨#[]⟩,.string ⟨#[]⟩] 9)=W5 at *
   go_quiet (fail)
   have HB6:=hid (HB5.out.trans (⟨rfl,rfl,rfl,Nat.le_refl _,fun _ _=>rfl⟩:Below w.heap.size W5 (W5.drewN nq)));clear HB5 y0 y1 y2 y3 hbg;generalize W5.drewN nq=W6 at *;have hTs:(⟨#[]⟩++⟨#[97]⟩++qAY c++s++⟨#[]⟩++⟨#[98]⟩++⟨#[]⟩:ByteArray).size≤300:=by
    simp only [ByteArray.size_append]
    show _≤_
    have e0:(⟨#[]⟩:ByteArray).size=0:=rfl;have e1:(⟨#[97]⟩:ByteArray).size=1:=rfl;have e2:(⟨#[98]⟩:ByteArray).size=1:=rfl;omega
   generalize (⟨#[]⟩++⟨#[97]⟩++qAY c++s++⟨#[]⟩++⟨#[98]⟩++⟨#[]⟩:ByteArray)=T at *
   cases tw
   · have HP:=hid (fun W (h:Mw W)=>pads_c HC.out HNU.out HL100.out (at_:=2) (by decide) (by decide) T W HPB.out (by omega) h)
     go_upto_region 16 with (first | go_skip | fail)
     go_cut [17,18] (McP (pdP nf (bts s).length 2 (c:Int)) 0 0 W6)
     case first=>
      go_wp2_with (first
       | go_skip
       | (go_at_call 8; refine (HP.out _ (HM.out.below HB6.out)).mono ?_; rintro e w1 ⟨PV,rfl,hpt,hb1⟩; obtain ⟨hsz,h20,hce⟩:=hpt.out.sz)
       | (refine wpList_store_row rfl 25 _ _ rfl w1.heap.size PV rfl rfl 25 patZ ((BX.new w1 patZ 25).alloc _) hsz h20 hce ?_)
       | (refine wpList_store_row rfl 28 _ _ rfl (w1.heap.size+1) #[.int .i64 _,.int .i64 _] rfl rfl 28 _ (pb_f PV) (qA2 _ _) rfl (qA4 _ _) ?_)
       | fail)
      go_meet
      exact qCD hpt.out hb1
     case rest=>
     obtain ⟨a1,PVa,rfl,rfl,hpb,hbc⟩:=hcut;have HPA:=hid hpb;have HBA:=hid (HB6.out.trans (hbc.mono HB6.out.size));clear hpb hbc HP;have gcc:((c:Int) == (c:Int))=true:=by simp
     have gss:((s.size:Int)+2 == (s.size:Int)+2)=true:=by simp
     go_wp2_with (first
      | go_skip
      | (go_at_call 7; refine (HA.out _ (HM.out.below HBA.out)).mono ?_; rintro e wz ⟨rfl,hbz⟩; have HZ:=hid (HPA.out.below hbz); have y0:=HZ.out.bf.c 0; obtain ⟨y17,y18,y19⟩:=qER HZ.out HLB.out)
      | fail)
     go_ret
     exact ⟨rfl,HBA.out.trans (hbz.mono HBA.out.size)⟩
   · have HP:=hid (fun W (h:Mw W)=>qD5 (T++qAY c) W (by rw [ByteArray.size_append]; omega) h)
     have HTW:=hid (qH6 HC.out H39.out HNU.out HL100.out (at_:=2) (by decide) (by decide) HPB.out);rw [HTW.out.1] at HP;have HTP:=hid HTW.out.2;generalize compZ (bts (T++qAY c))=CC at *;clear HTW;obtain ⟨q,e7,p⟩:=CC;dsimp only at HP HTP;obtain rfl:=HTP.out (by decide)
     go_upto_region 12 with (first | go_skip | fail)
     go_cut [15,16] (McP q 7 (T.size:Int) W6)
     case first=>
      go_wp2_with (first
       | go_skip
       | (go_at_call 8; refine (HP.out _ (HM.out.below HB6.out)).mono ?_; rintro e w1 ⟨PV,rfl,hpt,hb1⟩; obtain ⟨hsz,h20,hce⟩:=hpt.out.sz)
       | (refine wpList_store_row rfl 25 _ _ rfl w1.heap.size PV rfl rfl 25 patZ ((BX.new w1 patZ 25).alloc _) hsz h20 hce ?_)
       | (refine wpList_store_row rfl 28 _ _ rfl (w1.heap.size+1) #[.int .i64 _,.int .i64 _] rfl rfl 28 _ (pb_f PV) (qA2 _ _) rfl (qA4 _ _) ?_)
       | fail)
      go_meet
      exact qCD hpt.out hb1
     case rest=>
     obtain ⟨a1,PVa,rfl,rfl,hpb,hbc⟩:=hcut;have HPA:=hid hpb;have HBA:=hid (HB6.out.trans (hbc.mono HB6.out.size));clear hpb hbc HP;have gtt:((T.size:Int) == (T.size:Int))=true:=by simp
     go_wp2_with (first
      | go_skip
      | (go_at_call 7; refine (HA.out _ (HM.out.below HBA.out)).mono ?_; rintro e wz ⟨rfl,hbz⟩; have HZ:=hid (HPA.out.below hbz); have y0:=HZ.out.bf.c 0; have y1:=HZ.out.bf.c 1)
      | fail)
     go_ret
     exact ⟨rfl,HBA.out.trans (hbz.mono HBA.out.size)⟩
 · rw [hj] at hmod
   clear hj;have HPB:=hid (pads_bts2 HC.out H39.out HSN.out)
   go_upto_region 10 with (first | go_skip | fail)
   have hbl:=(Below.refl w3.heap.size w3).alloc (Nat.le_refl _) (.cells #[.string ⟨#[]⟩,.string ⟨#[]⟩,.string (qAY c),.string ⟨#[]⟩] 9);have HB5:=hid (HB3.out.trans (hbl.mono HB3.out.size));have hbx:=BX.new w3 #[.string ⟨#[]⟩,.string ⟨#[]⟩,.string (qAY c),.string ⟨#[]⟩] 9;have y0:=hbx.c 0;have y1:=hbx.c 1;have y2:=hbx.c 2;have y3:=hbx.c 3;have hbg:=hbx.lt;clear hbl hbx hmod;generalize w3.heap.size=g at *;generalize w3.alloc (.cells #[.string ⟨#[]⟩,.string ⟨#[]⟩,.string (qAY c),.string ⟨#[]⟩] 9)=W5 at *
   go_quiet (fail)
   have HB6:=hid (HB5.out.trans (⟨rfl,rfl,rfl,Nat.le_refl _,fun _ _=>rfl⟩:Below w.heap.size W5 (W5.drewN nq)));clear HB5 y0 y1 y2 y3 hbg;generalize W5.drewN nq=W6 at *;have hTs:(⟨#[]⟩++⟨#[97]⟩++⟨#[]⟩++s++qAY c++⟨#[98]⟩++⟨#[]⟩:ByteArray).size≤300:=by
    simp only [ByteArray.size_append]
    show _≤_
    have e0:(⟨#[]⟩:ByteArray).size=0:=rfl;have e1:(⟨#[97]⟩:ByteArray).size=1:=rfl;have e2:(⟨#[98]⟩:ByteArray).size=1:=rfl;omega
   generalize (⟨#[]⟩++⟨#[97]⟩++⟨#[]⟩++s++qAY c++⟨#[98]⟩++⟨#[]⟩:ByteArray)=T at *
   cases tw
   · have HP:=hid (fun W (h:Mw W)=>pads_c HC.out HNU.out HL100.out (at_:=3) (by decide) (by decide) T W HPB.out (by omega) h)
     go_upto_region 16 with (first | go_skip | fail)
     go_cut [17,18] (McP (pdP nf (bts s).length 3 (c:Int)) 0 0 W6)
     case first=>
      go_wp2_with (first
       | go_skip
       | (go_at_call 8; refine (HP.out _ (HM.out.below HB6.out)).mono ?_; rintro e w1 ⟨PV,rfl,hpt,hb1⟩; obtain ⟨hsz,h20,hce⟩:=hpt.out.sz)
       | (refine wpList_store_row rfl 25 _ _ rfl w1.heap.size PV rfl rfl 25 patZ ((BX.new w1 patZ 25).alloc _) hsz h20 hce ?_)
       | (refine wpList_store_row rfl 28 _ _ rfl (w1.heap.size+1) #[.int .i64 _,.int .i64 _] rfl rfl 28 _ (pb_f PV) (qA2 _ _) rfl (qA4 _ _) ?_)
       | fail)
      go_meet
      exact qCD hpt.out hb1
     case rest=>
     obtain ⟨a1,PVa,rfl,rfl,hpb,hbc⟩:=hcut;have HPA:=hid hpb;have HBA:=hid (HB6.out.trans (hbc.mono HB6.out.size));clear hpb hbc HP;have gcc:((c:Int) == (c:Int))=true:=by simp
     have gss:((s.size:Int)+2 == (s.size:Int)+2)=true:=by simp
     go_wp2_with (first
      | go_skip
      | (go_at_call 7; refine (HA.out _ (HM.out.below HBA.out)).mono ?_; rintro e wz ⟨rfl,hbz⟩; have HZ:=hid (HPA.out.below hbz); have y0:=HZ.out.bf.c 0; obtain ⟨y17,y18,y19⟩:=qER HZ.out HLB.out)
      | fail)
     go_ret
     exact ⟨rfl,HBA.out.trans (hbz.mono HBA.out.size)⟩
   · have HP:=hid (fun W (h:Mw W)=>qD5 (T++qAY c) W (by rw [ByteArray.size_append]; omega) h)
     have HTW:=hid (qH6 HC.out H39.out HNU.out HL100.out (at_:=3) (by decide) (by decide) HPB.out);rw [HTW.out.1] at HP;have HTP:=hid HTW.out.2;generalize compZ (bts (T++qAY c))=CC at *;clear HTW;obtain ⟨q,e7,p⟩:=CC;dsimp only at HP HTP;obtain rfl:=HTP.out (by decide)
     go_upto_region 12 with (first | go_skip | fail)
     go_cut [15,16] (McP q 7 (T.size:Int) W6)
     case first=>
      go_wp2_with (first
       | go_skip
       | (go_at_call 8; refine (HP.out _ (HM.out.below HB6.out)).mono ?_; rintro e w1 ⟨PV,rfl,hpt,hb1⟩; obtain ⟨hsz,h20,hce⟩:=hpt.out.sz)
       | (refine wpList_store_row rfl 25 _ _ rfl w1.heap.size PV rfl rfl 25 patZ ((BX.new w1 patZ 25).alloc _) hsz h20 hce ?_)
       | (refine wpList_store_row rfl 28 _ _ rfl (w1.heap.size+1) #[.int .i64 _,.int .i64 _] rfl rfl 28 _ (pb_f PV) (qA2 _ _) rfl (qA4 _ _) ?_)
       | fail)
      go_meet
      exact qCD hpt.out hb1
     case rest=>
     obtain ⟨a1,PVa,rfl,rfl,hpb,hbc⟩:=hcut;have HPA:=hid hpb;have HBA:=hid (HB6.out.trans (hbc.mono HB6.out.size));clear hpb hbc HP;have gtt:((T.size:Int) == (T.size:Int))=true:=by simp
     go_wp2_with (first
      | go_skip
      | (go_at_call 7; refine (HA.out _ (HM.out.below HBA.out)).mono ?_; rintro e wz ⟨rfl,hbz⟩; have HZ:=hid (HPA.out.below hbz); have y0:=HZ.out.bf.c 0; have y1:=HZ.out.bf.c 1)
      | fail)
     go_ret
     exact ⟨rfl,HBA.out.trans (hbz.mono HBA.out.size)⟩
 · rw [hj] at hmod
   clear hj;have HPB:=hid (pads_bts3 HC.out H39.out HSN.out)
   go_upto_region 10 with (first | go_skip | fail)
   have hbl:=(Below.refl w3.heap.size w3).alloc (Nat.le_refl _) (.cells #[.string ⟨#[]⟩,.string ⟨#[]⟩,.string ⟨#[]⟩,.string (qAY c)] 9);have HB5:=hid (HB3.out.trans (hbl.mono HB3.out.size));have hbx:=BX.new w3 #[.string ⟨#[]⟩,.string ⟨#[]⟩,.string ⟨#[]⟩,.string (qAY c)] 9;have y0:=hbx.c 0;have y1:=hbx.c 1;have y2:=hbx.c 2;have y3:=hbx.c 3;have hbg:=hbx.lt;clear hbl hbx hmod;generalize w3.heap.size=g at *;generalize w3.alloc (.cells #[.string ⟨#[]⟩,.string ⟨#[]⟩,.string ⟨#[]⟩,.string (qAY c)] 9)=W5 at *
   go_quiet (fail)
   have HB6:=hid (HB5.out.trans (⟨rfl,rfl,rfl,Nat.le_refl _,fun _ _=>rfl⟩:Below w.heap.size W5 (W5.drewN nq)));clear HB5 y0 y1 y2 y3 hbg;generalize W5.drewN nq=W6 at *;have hTs:(⟨#[]⟩++⟨#[97]⟩++⟨#[]⟩++s++⟨#[]⟩++⟨#[98]⟩++qAY c:ByteArray).size≤300:=by
    simp only [ByteArray.size_append]
    show _≤_
    have e0:(⟨#[]⟩:ByteArray).size=0:=rfl;have e1:(⟨#[97]⟩:ByteArray).size=1:=rfl;have e2:(⟨#[98]⟩:ByteArray).size=1:=rfl;omega
   generalize (⟨#[]⟩++⟨#[97]⟩++⟨#[]⟩++s++⟨#[]⟩++⟨#[98]⟩++qAY c:ByteArray)=T at *
   cases tw
   · have HP:=hid (fun W (h:Mw W)=>pads_c HC.out HNU.out HL100.out (at_:=4) (by decide) (by decide) T W HPB.out (by omega) h)
     go_upto_region 16 with (first | go_skip | fail)
     go_cut [17,18] (McP (pdP nf (bts s).length 4 (c:Int)) 0 0 W6)
     case first=>
      go_wp2_with (first
       | go_skip
       | (go_at_call 8; refine (HP.out _ (HM.out.below HB6.out)).mono ?_; rintro e w1 ⟨PV,rfl,hpt,hb1⟩; obtain ⟨hsz,h20,hce⟩:=hpt.out.sz)
       | (refine wpList_store_row rfl 25 _ _ rfl w1.heap.size PV rfl rfl 25 patZ ((BX.new w1 patZ 25).alloc _) hsz h20 hce ?_)
       | (refine wpList_store_row rfl 28 _ _ rfl (w1.heap.size+1) #[.int .i64 _,.int .i64 _] rfl rfl 28 _ (pb_f PV) (qA2 _ _) rfl (qA4 _ _) ?_)
       | fail)
      go_meet
      exact qCD hpt.out hb1
     case rest=>
     obtain ⟨a1,PVa,rfl,rfl,hpb,hbc⟩:=hcut;have HPA:=hid hpb;have HBA:=hid (HB6.out.trans (hbc.mono HB6.out.size));clear hpb hbc HP;have gcc:((c:Int) == (c:Int))=true:=by simp
     have gss:((s.size:Int)+2 == (s.size:Int)+2)=true:=by simp
     go_wp2_with (first
      | go_skip
      | (go_at_call 7; refine (HA.out _ (HM.out.below HBA.out)).mono ?_; rintro e wz ⟨rfl,hbz⟩; have HZ:=hid (HPA.out.below hbz); have y0:=HZ.out.bf.c 0; obtain ⟨y17,y18,y19⟩:=qER HZ.out HLB.out)
      | fail)
     go_ret
     exact ⟨rfl,HBA.out.trans (hbz.mono HBA.out.size)⟩
   · have HP:=hid (fun W (h:Mw W)=>qD5 (T++qAY c) W (by rw [ByteArray.size_append]; omega) h)
     have HTW:=hid (qH6 HC.out H39.out HNU.out HL100.out (at_:=4) (by decide) (by decide) HPB.out);rw [HTW.out.1] at HP;have HTP:=hid HTW.out.2;generalize compZ (bts (T++qAY c))=CC at *;clear HTW;obtain ⟨q,e7,p⟩:=CC;dsimp only at HP HTP
     go_upto_region 12 with (first | go_skip | fail)
     go_cut [15,16] (McP q 7 p W6)
     case first=>
      go_wp2_with (first
       | go_skip
       | (go_at_call 8; refine (HP.out _ (HM.out.below HB6.out)).mono ?_; rintro e w1 ⟨PV,rfl,hpt,hb1⟩; obtain ⟨hsz,h20,hce⟩:=hpt.out.sz)
       | (refine wpList_store_row rfl 25 _ _ rfl w1.heap.size PV rfl rfl 25 patZ ((BX.new w1 patZ 25).alloc _) hsz h20 hce ?_)
       | (refine wpList_store_row rfl 28 _ _ rfl (w1.heap.size+1) #[.int .i64 _,.int .i64 _] rfl rfl 28 _ (pb_f PV) (qA2 _ _) rfl (qA4 _ _) ?_)
       | fail)
      go_meet
      exact qCD hpt.out hb1
     case rest=>
     obtain ⟨a1,PVa,rfl,rfl,hpb,hbc⟩:=hcut;have HPA:=hid hpb;have HBA:=hid (HB6.out.trans (hbc.mono HB6.out.size));clear hpb hbc HP;have gtt:((T.size:Int) == (T.size:Int))=true:=by simp
     go_wp2_with (first
      | go_skip
      | (go_at_call 7; refine (HA.out _ (HM.out.below HBA.out)).mono ?_; rintro e wz ⟨rfl,hbz⟩; have HZ:=hid (HPA.out.below hbz); have y0:=HZ.out.bf.c 0; have y1:=HZ.out.bf.c 1)
      | fail)
     go_ret
     exact ⟨rfl,HBA.out.trans (hbz.mono HBA.out.size)⟩
end Go.Proofs.YtmeaiaecmmglnaaGreatDoor
