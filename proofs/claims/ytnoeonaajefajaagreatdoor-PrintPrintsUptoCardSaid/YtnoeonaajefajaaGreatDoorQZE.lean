import Derived.Test.YtnoeonaajefajaaGreatDoorQZF
import Derived.Test.YtnoeonaajefajaaGreatDoorQNH
import Derived.Test.YtnoeonaajefajaaGreatDoorQVE
import Derived.Test.YtnoeonaajefajaaGreatDoorQVF
set_option linter.all false
set_option maxRecDepth 100000
set_option linter.unusedVariables false
namespace Go.Proofs.YtnoeonaajefajaaGreatDoor
open Go.RowKit
open Lib (hid)
theorem qIX {w:World} {PV:Array Value} {q:Pt} (h:Ptv w PV q):PV[17]? = some (.int .i64 q.at_)∧PV[18]? = some (.int .i32 q.pad)∧PV[19]? = some (.int .i64 ((q.width:Nat):Int)):=by
 obtain ⟨A0,n0,c0,A1,n1,c1,A3,n3,c3,A4,n4,c4,e,-⟩:=h
 rw [e]
 exact ⟨rfl,rfl,rfl⟩
theorem qLC (A:Option Addr) (n c:Nat) (is:List Itm) (w:World) (h:Its w A n is) (hn:n≤1000000) (hm:is.all mayI=true) :
 Calls Tryz.prog 46 #[.slice A n c] w fun e w'=>e=.returned (.string (prtZ (tksI is)))∧Below w.heap.size w w':=by
 have HT:=hid (fun W (hb:Below w.heap.size w W)=>refTokens_c A n c is W (h.below hb) (by omega) hm)
 have HE:=hid (qG5 hm)
 have HL:=hid h.len
 have HM:=hid (qG6 is)
 clear h
 go_enter Tryz.func46,Tryz.ntmps46
 go_wp2_with (first
  | (go_at_call 80; refine (HT.out _ (Below.refl _ _)).mono ?_; rintro e w1 ⟨A1,m1,c1,rfl,ho,hb1⟩)
  | (go_at_call 79; refine (refPrint_c A1 m1 c1 (is.map tkI) _ ho.out.tks (by have:=ho.out.tks.len; rw [List.length_map,HL.out] at this; omega) (by rw [← HE.out]; exact HM.out)).mono ?_; rintro e w2 ⟨rfl,hb2⟩)
  | fail)
 go_ret
 exact ⟨by rw [HE.out]; rfl,hb1.out.trans (hb2.mono hb1.out.size)⟩
structure G5 (w W:World) (g:Nat) (PV V:Array Value):Prop where
 b:Below w.heap.size w W
 bx:BX W g PV 24
 by_:BX W (g+1) V 70
 hg:w.heap.size=g
section
variable {w W:World} {g:Nat} {PV V:Array Value}
theorem G5.below {W':World} (x:G5 w W g PV V) (hb:Below W.heap.size W W'):G5 w W' g PV V:=⟨x.b.trans (hb.mono x.b.size),x.bx.below hb x.bx.lt,x.by_.below hb x.by_.lt,x.hg⟩
theorem G5.drew (x:G5 w W g PV V):G5 w W.drew g PV V:=⟨x.b.drew,x.bx,x.by_,x.hg⟩
theorem G5.set (x:G5 w W g PV V) (k:Nat) (v:Value):G5 w (W.setCell ⟨g+1,k,none⟩ v) g PV (V.setIfInBounds k v):=
 ⟨x.b.setCell (p:=⟨g+1,k,none⟩) (by have:=x.hg; show _≤g+1; omega) v,(heap_setCell_other W ⟨g+1,k,none⟩ g v (by show g≠g+1; omega)).trans x.bx,heap_setCell_same W (g+1) k V _ v x.by_,x.hg⟩
end
def P5 (w:World) (g:Nat) (PV V:Array Value) (mo:Int) (v:Value) (Wc:World):Prop:=v=.int .i64 mo∧G5 w Wc g PV V
def z5:Array Value:=#[.string ⟨#[]⟩,.string ⟨#[]⟩,.string ⟨#[]⟩,.string ⟨#[]⟩,.string ⟨#[]⟩]
def pd5 (a r:Int):Array Value:=#[.string ⟨#[]⟩,.string (pdB a r 1),.string (pdB a r 2),.string (pdB a r 3),.string (pdB a r 4)]
theorem pdB_at {a:Int} (c:Nat) (hc:isC c=true) (h:c≠39):pdB a (c:Int) a=(⟨#[42]⟩:ByteArray)++stz (encN c):=by
 have hz:isZ (c:Int)=true:=by rw [qBP]; exact hc
 refine qDS ?_
 rw [pdB_bts _ hz,qAP,qAE (qBH hc),decide_eq_true rfl,padC,if_pos rfl,if_neg (by omega)]
 simp [encs]; rfl
theorem pdB_39 (a:Int):pdB a 39 a=⟨#[42,39,39]⟩:=by
 refine qDS ?_
 rw [pdB_bts _ (by decide),decide_eq_true rfl]; rfl
theorem pd5_zero (c:Int):z5=pd5 0 c:=by simp [z5,pd5,pdB]
theorem pd5_set {a:Int} (c:Int) (h1:1≤a) (h4:a≤4):z5.setIfInBounds a.toNat (.string (pdB a c a))=pd5 a c:=by
 rcases (show a=1∨a=2∨a=3∨a=4 by omega) with rfl | rfl | rfl | rfl <;> simp [z5,pd5,pdB]
set_option maxHeartbeats 16000000 in
theorem refPP_c {N:List Nat} (PV:Array Value) (p:Pt) (w:World) (h:Ptv w PV p) (g:GdP p N) :
 Calls Tryz.prog 18 #[.agg PV] w fun e w'=>e=.returned (.string (stz (encs (prP p))))∧Below w.heap.size w w':=by
 rw [← prB_eq g]
 have HS:=hid g.g
 have hz:=g.pad
 have hw4:=g.wid4
 have ha0:=g.ok.lo
 have ha4:=g.ok.hi
 obtain ⟨c,hcp,hc⟩:∃ c:Nat,p.pad=(c:Int)∧isC c=true:=by
  obtain ⟨c,e,-⟩:=qD4 hz;exact ⟨c,e,by rw [e,qBP] at hz; exact hz⟩
 have HC:=hid hc
 have hsz:=h.sz.1
 have k17:=(qIX h).1
 have k18:=(qIX h).2.1
 have k19:=(qIX h).2.2
 have HN:=hid (fun W (m:Int) (hm:m≤1000)=>(show Calls Tryz.prog 45 #[.agg PV,.int .i64 m] W (fun e w'=>e=.returned (.string (fN p.num m))∧Below W.heap.size W w') from by
  obtain ⟨A0,n0,c0,A1,n1,c1,A3,n3,c3,A4,n4,c4,e,-⟩:=h;subst e;exact qHF _ _ _ _ _ _ _ _ p.num m W g.okN hm))
 have hf0:(fN p.num 0).size≤1000000:=(qJV p g.okN).2 0 (by decide)
 have hfm:=(qJV p g.okN).2 (((p.width:Nat):Int) - p.pre.length - (fN p.num 0).size - p.suf.length) (by omega)
 obtain ⟨A0,n0,c0,A1,n1,c1,A3,n3,c3,A4,n4,c4,e,i0,i1,i3,i4⟩:=h
 have l0:n0≤1000:=by rw [← i0.len]; exact HS.out.l0
 have l1:n1≤1000:=by rw [← i1.len]; exact HS.out.l1
 have l3:n3≤1000:=by rw [← i3.len]; exact HS.out.l3
 have l4:n4≤1000:=by rw [← i4.len]; exact HS.out.l4
 have HA0:=hid (fun W (hb:Below w.heap.size w W)=>qLC A0 n0 c0 p.pre W (i0.below hb) (by omega) g.pre.1)
 have HA1:=hid (fun W (hb:Below w.heap.size w W)=>qLC A1 n1 c1 p.suf W (i1.below hb) (by omega) g.suf.1)
 have HA3:=hid (fun W (hb:Below w.heap.size w W)=>qLC A3 n3 c3 p.npre W (i3.below hb) (by omega) g.npre)
 have HA4:=hid (fun W (hb:Below w.heap.size w W)=>qLC A4 n4 c4 p.nsuf W (i4.below hb) (by omega) g.nsuf)
 have k0:PV[0]? = some (.slice A0 n0 c0):=by rw [e]; rfl
 have k1:PV[1]? = some (.slice A1 n1 c1):=by rw [e]; rfl
 have k2:PV[2]? = some (.bool p.neg):=by rw [e]; rfl
 have k3:PV[3]? = some (.slice A3 n3 c3):=by rw [e]; rfl
 have k4:PV[4]? = some (.slice A4 n4 c4):=by rw [e]; rfl
 have hwd:p.at_=0→p.width=0:=fun h0=>by rw [g.wid,if_neg (by rw [h0]; decide)]
 have hn0:=i0.len
 have hn1:=i1.len
 have HMO:=hid (show fN p.num (if p.at_=0 then 0 else ((p.width:Nat):Int) - n0 - n1 - (fN p.num 0).size)=partB p.g (fN p.num) by
  show _=fN p.num (((p.width:Nat):Int) - p.pre.length - (fN p.num 0).size - p.suf.length)
  unfold fN
  congr 2
  split
  · rename_i h0; have:=hwd h0; omega
  · omega)
 have hmo1:(if p.at_=0 then 0 else ((p.width:Nat):Int) - n0 - n1 - (fN p.num 0).size)≤1000:=by split <;> omega
 have hmo2:p.at_=0→(if p.at_=0 then 0 else ((p.width:Nat):Int) - n0 - n1 - (fN p.num 0).size)=0:=fun h0=>if_pos h0
 have hmo3:p.at_≠0→(if p.at_=0 then 0 else ((p.width:Nat):Int) - n0 - n1 - (fN p.num 0).size)=((p.width:Nat):Int) - n0 - n1 - (fN p.num 0).size:=fun h0=>if_neg h0
 have HTX:=hid (show prB p.g (fN p.num)=pdB p.at_ (c:Int) 1++prtZ (tksI p.pre)++pdB p.at_ (c:Int) 2++partB p.g (fN p.num)++pdB p.at_ (c:Int) 3++prtZ (tksI p.suf)++pdB p.at_ (c:Int) 4++sndB p.g by rw [← hcp]; rfl)
 have HSN:=hid (show sndB p.g=if p.neg then (⟨#[59]⟩:ByteArray)++prtZ (tksI p.npre)++⟨#[48]⟩++prtZ (tksI p.nsuf) else ⟨#[]⟩ from rfl)
 rw [HTX.out,HSN.out,← HMO.out]
 rw [hcp] at k18
 have p1:=qBN p.at_ (c:Int) 1
 have p2:=qBN p.at_ (c:Int) 2
 have p3:=qBN p.at_ (c:Int) 3
 have p4:=qBN p.at_ (c:Int) 4
 have s0:(prtZ (tksI p.pre)).size≤20000:=Nat.le_trans (qBO _) (by omega)
 have s1:(prtZ (tksI p.suf)).size≤20000:=Nat.le_trans (qBO _) (by omega)
 have s3:(prtZ (tksI p.npre)).size≤20000:=Nat.le_trans (qBO _) (by have:=i3.len; omega)
 have s4:(prtZ (tksI p.nsuf)).size≤20000:=Nat.le_trans (qBO _) (by have:=i4.len; omega)
 have hTs:(fN p.num (if p.at_=0 then 0 else ((p.width:Nat):Int) - n0 - n1 - (fN p.num 0).size)).size≤1000000:=by rw [HMO.out]; exact hfm
 generalize (if p.at_=0 then 0 else ((p.width:Nat):Int) - n0 - n1 - (fN p.num 0).size)=mo at *
 have hwd4:(0:Int)≤((p.width:Nat):Int)∧((p.width:Nat):Int)≤400:=by omega
 generalize ((p.width:Nat):Int)=wd at *
 have HN0:=hid (fun W=>HN.out W 0 (by decide))
 generalize hF0:fN p.num 0=F0 at *
 have HNM:=hid (fun W=>HN.out W mo hmo1)
 generalize hTP:fN p.num mo=TP at *
 have HF0:=hid hF0
 have HTP:=hid hTP
 generalize prtZ (tksI p.pre)=S0 at *
 generalize prtZ (tksI p.suf)=S1 at *
 generalize prtZ (tksI p.npre)=S3 at *
 generalize prtZ (tksI p.nsuf)=S4 at *
 have HV:=hid (pd5_set (a:=p.at_) (c:Int))
 have HV0:=hid (pd5_zero (c:Int))
 have HB:=hid (fun (h:c≠39)=>pdB_at (a:=p.at_) c hc h)
 generalize p.at_=at_ at *
 generalize p.neg=ng at *
 clear hF0 hTP hmo1 HN HTX HSN HMO i0 i1 i3 i4 e hz hcp hc hfm hwd hn0 hn1
 go_enter Tryz.func18,Tryz.ntmps18
 go_upto_region 3 with fail
 change Code.wp _ _ _ _ ((w.alloc (.cells PV 24)).alloc (.cells z5 70))
 have HX:Hid (G5 w ((w.alloc (.cells PV 24)).alloc (.cells z5 70)) w.heap.size PV z5):=hid ⟨(qA2 w _).alloc (by simp) _,(BX.new w PV _).alloc _,by have:=BX.new (w.alloc (.cells PV 24)) z5 70; simpa using this,rfl⟩
 generalize (w.alloc (.cells PV 24)).alloc (.cells z5 70)=W at *
 generalize hg:w.heap.size=g at *
 have Hg:=hid hg
 clear hg
 have c17:=(HX.out.bx.c 17).trans k17
 go_upto_if 8 with fail
 clear c17
 go_cut [4] (P5 w g PV (pd5 at_ (c:Int)) mo)
 case first=>
  rcases (show at_=0∨at_=1∨at_=2∨at_=3∨at_=4 by omega) with h0 | h0 | h0 | h0 | h0
  all_goals subst h0
  · have HMZ:=hid (hmo2 rfl)
    clear hmo2 hmo3
    go_wp2
    go_meet
    exact ⟨by rw [HMZ.out],HV0.out ▸ HX.out⟩
  · have HMO3:=hid (hmo3 (by decide))
    clear hmo2 hmo3
    go_upto_region 4 with fail
    have ST4:∀ W V,G5 w W g PV V→Hid (∃ V,G5 w W g PV V)∧W.cell? ⟨g,17,none⟩=some (.int .i64 1)∧W.cell? ⟨g,18,none⟩=some (.int .i32 (c:Int)):=fun W V x=>⟨hid ⟨V,x⟩,(x.bx.c 17).trans k17,(x.bx.c 18).trans k18⟩
    have G4:=HX;have m42:¬ 9223372036854775807 < 1+(stz (encN c)).size:=by rw [qA9]; have:=qC6 c; omega
    refine wp_region_held_drew (S:=(fun W:World=>Hid (∃ V,G5 w W g PV V)∧W.cell? ⟨g,17,none⟩=some (.int .i64 1)∧W.cell? ⟨g,18,none⟩=some (.int .i32 (c:Int)))) (by kernel_rfl) (ST4 _ _ HX.out.drew) (fun hHeld=>?_);refine' qt 0 hHeld ?_
    try simp only [pk]
    refine' qt 1 hHeld ?_
    try simp only [pk]
    refine' qt 2 hHeld ?_
    try simp only [pk]
    refine' qt 3 hHeld ?_
    try simp only [pk]
    refine qp 4 fun K hK=>?_
    go_simp;refine (qB2 c _ HC.out).mono ?_;rintro e w1 ⟨A9,m9,c9,rfl,ho9,hm9,hb9⟩;have hcv:=qAR ho9 (qBH HC.out);have hG:=G4.out.drew.below hb9;have hS:=ST4 _ _ hG;have hm94:m9≤4:=by rw [hm9]; exact qC6 c
    clear hHeld ho9 hb9 hm9
    go_wp2_with fail
    refine hK.out _ _ hS (fun hHeld=>?_);clear hK K hS
    try simp only [pk]
    refine qp 5 fun K hK=>?_
    go_simp;refine hK.out _ _ hHeld (fun hHeld=>?_);clear hK K
    try simp only [pk]
    refine' qt 6 hHeld ?_
    try simp only [pk]
    refine' qt 7 hHeld ?_
    try simp only [pk]
    refine qp 8 fun K hK=>?_
    have hf8:=hG.by_.fr 1;have hc8:=hG.by_.c 1;go_simp;refine hK.out _ _ (ST4 _ _ (hG.set 1 _)) (fun hHeld=>?_);clear hK K
    try simp only [pk]
    refine wpAnyH_done (by kernel_rfl) ?_ _;have HY:=hid (hG.set 1 (.string ((⟨#[42]⟩:ByteArray)++stz (encN c))));clear hHeld ST4 hG hcv hm94 G4 HX m42;generalize World.setCell _ ⟨g+1,1,none⟩ (.string ((⟨#[42]⟩:ByteArray)++stz (encN c)))=W4 at *;have c18:=(HY.out.bx.c 18).trans k18
    by_cases h39:c=39
    · subst h39
      have HZ:=hid (HY.out.set 1 (.string ⟨#[42,39,39]⟩));have e1:=HY.out.by_.c 1;have e2:=HY.out.by_.fr 1;have c17:=(HY.out.bx.c 17).trans k17
      go_upto_region 7 with fail
      clear e1 e2 c17 c18 HY;generalize W4.setCell ⟨g+1,1,none⟩ (.string ⟨#[42,39,39]⟩)=W5 at *;have HY:=hid (show G5 w W5 g PV (pd5 1 ((39:Nat):Int)) by rw [← HV.out (by decide) (by decide),show pdB 1 ((39:Nat):Int) 1=⟨#[42,39,39]⟩ from pdB_39 1]; exact HZ.out);generalize hV4:pd5 1 ((39:Nat):Int)=V4 at *;have hV4:=hid hV4;have ST7:∀ W,G5 w W g PV V4→Hid (G5 w W g PV V4)∧W.cell? ⟨g,0,none⟩=some (.slice A0 n0 c0)∧W.cell? ⟨g,1,none⟩=some (.slice A1 n1 c1)∧W.cell? ⟨g,19,none⟩=some (.int .i64 wd):=fun W x=>⟨hid x,(x.bx.c 0).trans k0,(x.bx.c 1).trans k1,(x.bx.c 19).trans k19⟩
      have r1:IntKind.i64.wrap (wd - (n0:Int))=wd - (n0:Int):=IntWalk.i64_in _ (by omega);have r2:IntKind.i64.wrap (wd - (n0:Int) - (n1:Int))=wd - (n0:Int) - (n1:Int):=IntWalk.i64_in _ (by omega);have r3:IntKind.i64.wrap (wd - (n0:Int) - (n1:Int) - (F0.size:Int))=wd - (n0:Int) - (n1:Int) - (F0.size:Int):=IntWalk.i64_in _ (by omega);refine wp_region_held_drew (S:=(fun W:World=>Hid (G5 w W g PV V4)∧W.cell? ⟨g,0,none⟩=some (.slice A0 n0 c0)∧W.cell? ⟨g,1,none⟩=some (.slice A1 n1 c1)∧W.cell? ⟨g,19,none⟩=some (.int .i64 wd))) (by kernel_rfl) (ST7 _ HY.out.drew) (fun hHeld=>?_);refine' qt 0 hHeld ?_
      try simp only [pk]
      refine' qt 1 hHeld ?_
      try simp only [pk]
      refine' qt 2 hHeld ?_
      try simp only [pk]
      refine' qt 3 hHeld ?_
      try simp only [pk]
      refine' qt 4 hHeld ?_
      try simp only [pk]
      refine' qt 5 hHeld ?_
      try simp only [pk]
      refine' qt 6 hHeld ?_
      try simp only [pk]
      refine' qt 7 hHeld ?_
      try simp only [pk]
      refine' qt 8 hHeld ?_
      try simp only [pk]
      refine' qt 9 hHeld ?_
      try simp only [pk]
      refine ql 10 hHeld (fun _ h=>h.1.out.bx) Tryz.underlying24 hsz ?_
      try simp only [pk]
      refine qk 11 (HN0.out _) (fun W hb=>ST7 W (hHeld.1.out.below hb)) fun W hHeld _=>?_
      try simp only [pk]
      refine' qt 12 hHeld ?_
      try simp only [pk]
      refine' qt 13 hHeld ?_
      try simp only [pk]
      refine' qt 14 hHeld ?_
      try simp only [pk]
      refine wpAnyH_done (by kernel_rfl) ?_ _;have HYe:=hHeld.1;clear hHeld ST7
      go_wp2
      go_meet
      exact ⟨by rw [HMO3.out],HYe.out⟩
    · have g39:((c:Int) == 39)=false:=by simp; omega
      go_upto_region 7 with fail
      clear c18 g39;have HY:=hid (show G5 w W4 g PV (pd5 1 c) by rw [← HV.out (by decide) (by decide),HB.out h39]; exact HY.out);generalize hV4:pd5 1 (c:Int)=V4 at *;have hV4:=hid hV4;have ST7:∀ W,G5 w W g PV V4→Hid (G5 w W g PV V4)∧W.cell? ⟨g,0,none⟩=some (.slice A0 n0 c0)∧W.cell? ⟨g,1,none⟩=some (.slice A1 n1 c1)∧W.cell? ⟨g,19,none⟩=some (.int .i64 wd):=fun W x=>⟨hid x,(x.bx.c 0).trans k0,(x.bx.c 1).trans k1,(x.bx.c 19).trans k19⟩
      have r1:IntKind.i64.wrap (wd - (n0:Int))=wd - (n0:Int):=IntWalk.i64_in _ (by omega);have r2:IntKind.i64.wrap (wd - (n0:Int) - (n1:Int))=wd - (n0:Int) - (n1:Int):=IntWalk.i64_in _ (by omega);have r3:IntKind.i64.wrap (wd - (n0:Int) - (n1:Int) - (F0.size:Int))=wd - (n0:Int) - (n1:Int) - (F0.size:Int):=IntWalk.i64_in _ (by omega);refine wp_region_held_drew (S:=(fun W:World=>Hid (G5 w W g PV V4)∧W.cell? ⟨g,0,none⟩=some (.slice A0 n0 c0)∧W.cell? ⟨g,1,none⟩=some (.slice A1 n1 c1)∧W.cell? ⟨g,19,none⟩=some (.int .i64 wd))) (by kernel_rfl) (ST7 _ HY.out.drew) (fun hHeld=>?_);refine' qt 0 hHeld ?_
      try simp only [pk]
      refine' qt 1 hHeld ?_
      try simp only [pk]
      refine' qt 2 hHeld ?_
      try simp only [pk]
      refine' qt 3 hHeld ?_
      try simp only [pk]
      refine' qt 4 hHeld ?_
      try simp only [pk]
      refine' qt 5 hHeld ?_
      try simp only [pk]
      refine' qt 6 hHeld ?_
      try simp only [pk]
      refine' qt 7 hHeld ?_
      try simp only [pk]
      refine' qt 8 hHeld ?_
      try simp only [pk]
      refine' qt 9 hHeld ?_
      try simp only [pk]
      refine ql 10 hHeld (fun _ h=>h.1.out.bx) Tryz.underlying24 hsz ?_
      try simp only [pk]
      refine qk 11 (HN0.out _) (fun W hb=>ST7 W (hHeld.1.out.below hb)) fun W hHeld _=>?_
      try simp only [pk]
      refine' qt 12 hHeld ?_
      try simp only [pk]
      refine' qt 13 hHeld ?_
      try simp only [pk]
      refine' qt 14 hHeld ?_
      try simp only [pk]
      refine wpAnyH_done (by kernel_rfl) ?_ _;have HYe:=hHeld.1;clear hHeld ST7
      go_wp2
      go_meet
      exact ⟨by rw [HMO3.out],HYe.out⟩
  · have HMO3:=hid (hmo3 (by decide))
    clear hmo2 hmo3
    go_upto_region 4 with fail
    have ST4:∀ W V,G5 w W g PV V→Hid (∃ V,G5 w W g PV V)∧W.cell? ⟨g,17,none⟩=some (.int .i64 2)∧W.cell? ⟨g,18,none⟩=some (.int .i32 (c:Int)):=fun W V x=>⟨hid ⟨V,x⟩,(x.bx.c 17).trans k17,(x.bx.c 18).trans k18⟩
    have G4:=HX;have m42:¬ 9223372036854775807 < 1+(stz (encN c)).size:=by rw [qA9]; have:=qC6 c; omega
    refine wp_region_held_drew (S:=(fun W:World=>Hid (∃ V,G5 w W g PV V)∧W.cell? ⟨g,17,none⟩=some (.int .i64 2)∧W.cell? ⟨g,18,none⟩=some (.int .i32 (c:Int)))) (by kernel_rfl) (ST4 _ _ HX.out.drew) (fun hHeld=>?_);refine' qt 0 hHeld ?_
    try simp only [pk]
    refine' qt 1 hHeld ?_
    try simp only [pk]
    refine' qt 2 hHeld ?_
    try simp only [pk]
    refine' qt 3 hHeld ?_
    try simp only [pk]
    refine qp 4 fun K hK=>?_
    go_simp;refine (qB2 c _ HC.out).mono ?_;rintro e w1 ⟨A9,m9,c9,rfl,ho9,hm9,hb9⟩;have hcv:=qAR ho9 (qBH HC.out);have hG:=G4.out.drew.below hb9;have hS:=ST4 _ _ hG;have hm94:m9≤4:=by rw [hm9]; exact qC6 c
    clear hHeld ho9 hb9 hm9
    go_wp2_with fail
    refine hK.out _ _ hS (fun hHeld=>?_);clear hK K hS
    try simp only [pk]
    refine qp 5 fun K hK=>?_
    go_simp;refine hK.out _ _ hHeld (fun hHeld=>?_);clear hK K
    try simp only [pk]
    refine' qt 6 hHeld ?_
    try simp only [pk]
    refine' qt 7 hHeld ?_
    try simp only [pk]
    refine qp 8 fun K hK=>?_
    have hf8:=hG.by_.fr 2;have hc8:=hG.by_.c 2;go_simp;refine hK.out _ _ (ST4 _ _ (hG.set 2 _)) (fun hHeld=>?_);clear hK K
    try simp only [pk]
    refine wpAnyH_done (by kernel_rfl) ?_ _;have HY:=hid (hG.set 2 (.string ((⟨#[42]⟩:ByteArray)++stz (encN c))));clear hHeld ST4 hG hcv hm94 G4 HX m42;generalize World.setCell _ ⟨g+1,2,none⟩ (.string ((⟨#[42]⟩:ByteArray)++stz (encN c)))=W4 at *;have c18:=(HY.out.bx.c 18).trans k18
    by_cases h39:c=39
    · subst h39
      have HZ:=hid (HY.out.set 2 (.string ⟨#[42,39,39]⟩));have e1:=HY.out.by_.c 2;have e2:=HY.out.by_.fr 2;have c17:=(HY.out.bx.c 17).trans k17
      go_upto_region 7 with fail
      clear e1 e2 c17 c18 HY;generalize W4.setCell ⟨g+1,2,none⟩ (.string ⟨#[42,39,39]⟩)=W5 at *;have HY:=hid (show G5 w W5 g PV (pd5 2 ((39:Nat):Int)) by rw [← HV.out (by decide) (by decide),show pdB 2 ((39:Nat):Int) 2=⟨#[42,39,39]⟩ from pdB_39 2]; exact HZ.out);generalize hV4:pd5 2 ((39:Nat):Int)=V4 at *;have hV4:=hid hV4;have ST7:∀ W,G5 w W g PV V4→Hid (G5 w W g PV V4)∧W.cell? ⟨g,0,none⟩=some (.slice A0 n0 c0)∧W.cell? ⟨g,1,none⟩=some (.slice A1 n1 c1)∧W.cell? ⟨g,19,none⟩=some (.int .i64 wd):=fun W x=>⟨hid x,(x.bx.c 0).trans k0,(x.bx.c 1).trans k1,(x.bx.c 19).trans k19⟩
      have r1:IntKind.i64.wrap (wd - (n0:Int))=wd - (n0:Int):=IntWalk.i64_in _ (by omega);have r2:IntKind.i64.wrap (wd - (n0:Int) - (n1:Int))=wd - (n0:Int) - (n1:Int):=IntWalk.i64_in _ (by omega);have r3:IntKind.i64.wrap (wd - (n0:Int) - (n1:Int) - (F0.size:Int))=wd - (n0:Int) - (n1:Int) - (F0.size:Int):=IntWalk.i64_in _ (by omega);refine wp_region_held_drew (S:=(fun W:World=>Hid (G5 w W g PV V4)∧W.cell? ⟨g,0,none⟩=some (.slice A0 n0 c0)∧W.cell? ⟨g,1,none⟩=some (.slice A1 n1 c1)∧W.cell? ⟨g,19,none⟩=some (.int .i64 wd))) (by kernel_rfl) (ST7 _ HY.out.drew) (fun hHeld=>?_);refine' qt 0 hHeld ?_
      try simp only [pk]
      refine' qt 1 hHeld ?_
      try simp only [pk]
      refine' qt 2 hHeld ?_
      try simp only [pk]
      refine' qt 3 hHeld ?_
      try simp only [pk]
      refine' qt 4 hHeld ?_
      try simp only [pk]
      refine' qt 5 hHeld ?_
      try simp only [pk]
      refine' qt 6 hHeld ?_
      try simp only [pk]
      refine' qt 7 hHeld ?_
      try simp only [pk]
      refine' qt 8 hHeld ?_
      try simp only [pk]
      refine' qt 9 hHeld ?_
      try simp only [pk]
      refine ql 10 hHeld (fun _ h=>h.1.out.bx) Tryz.underlying24 hsz ?_
      try simp only [pk]
      refine qk 11 (HN0.out _) (fun W hb=>ST7 W (hHeld.1.out.below hb)) fun W hHeld _=>?_
      try simp only [pk]
      refine' qt 12 hHeld ?_
      try simp only [pk]
      refine' qt 13 hHeld ?_
      try simp only [pk]
      refine' qt 14 hHeld ?_
      try simp only [pk]
      refine wpAnyH_done (by kernel_rfl) ?_ _;have HYe:=hHeld.1;clear hHeld ST7
      go_wp2
      go_meet
      exact ⟨by rw [HMO3.out],HYe.out⟩
    · have g39:((c:Int) == 39)=false:=by simp; omega
      go_upto_region 7 with fail
      clear c18 g39;have HY:=hid (show G5 w W4 g PV (pd5 2 c) by rw [← HV.out (by decide) (by decide),HB.out h39]; exact HY.out);generalize hV4:pd5 2 (c:Int)=V4 at *;have hV4:=hid hV4;have ST7:∀ W,G5 w W g PV V4→Hid (G5 w W g PV V4)∧W.cell? ⟨g,0,none⟩=some (.slice A0 n0 c0)∧W.cell? ⟨g,1,none⟩=some (.slice A1 n1 c1)∧W.cell? ⟨g,19,none⟩=some (.int .i64 wd):=fun W x=>⟨hid x,(x.bx.c 0).trans k0,(x.bx.c 1).trans k1,(x.bx.c 19).trans k19⟩
      have r1:IntKind.i64.wrap (wd - (n0:Int))=wd - (n0:Int):=IntWalk.i64_in _ (by omega);have r2:IntKind.i64.wrap (wd - (n0:Int) - (n1:Int))=wd - (n0:Int) - (n1:Int):=IntWalk.i64_in _ (by omega);have r3:IntKind.i64.wrap (wd - (n0:Int) - (n1:Int) - (F0.size:Int))=wd - (n0:Int) - (n1:Int) - (F0.size:Int):=IntWalk.i64_in _ (by omega);refine wp_region_held_drew (S:=(fun W:World=>Hid (G5 w W g PV V4)∧W.cell? ⟨g,0,none⟩=some (.slice A0 n0 c0)∧W.cell? ⟨g,1,none⟩=some (.slice A1 n1 c1)∧W.cell? ⟨g,19,none⟩=some (.int .i64 wd))) (by kernel_rfl) (ST7 _ HY.out.drew) (fun hHeld=>?_);refine' qt 0 hHeld ?_
      try simp only [pk]
      refine' qt 1 hHeld ?_
      try simp only [pk]
      refine' qt 2 hHeld ?_
      try simp only [pk]
      refine' qt 3 hHeld ?_
      try simp only [pk]
      refine' qt 4 hHeld ?_
      try simp only [pk]
      refine' qt 5 hHeld ?_
      try simp only [pk]
      refine' qt 6 hHeld ?_
      try simp only [pk]
      refine' qt 7 hHeld ?_
      try simp only [pk]
      refine' qt 8 hHeld ?_
      try simp only [pk]
      refine' qt 9 hHeld ?_
      try simp only [pk]
      refine ql 10 hHeld (fun _ h=>h.1.out.bx) Tryz.underlying24 hsz ?_
      try simp only [pk]
      refine qk 11 (HN0.out _) (fun W hb=>ST7 W (hHeld.1.out.below hb)) fun W hHeld _=>?_
      try simp only [pk]
      refine' qt 12 hHeld ?_
      try simp only [pk]
      refine' qt 13 hHeld ?_
      try simp only [pk]
      refine' qt 14 hHeld ?_
      try simp only [pk]
      refine wpAnyH_done (by kernel_rfl) ?_ _;have HYe:=hHeld.1;clear hHeld ST7
      go_wp2
      go_meet
      exact ⟨by rw [HMO3.out],HYe.out⟩
  · have HMO3:=hid (hmo3 (by decide))
    clear hmo2 hmo3
    go_upto_region 4 with fail
    have ST4:∀ W V,G5 w W g PV V→Hid (∃ V,G5 w W g PV V)∧W.cell? ⟨g,17,none⟩=some (.int .i64 3)∧W.cell? ⟨g,18,none⟩=some (.int .i32 (c:Int)):=fun W V x=>⟨hid ⟨V,x⟩,(x.bx.c 17).trans k17,(x.bx.c 18).trans k18⟩
    have G4:=HX;have m42:¬ 9223372036854775807 < 1+(stz (encN c)).size:=by rw [qA9]; have:=qC6 c; omega
    refine wp_region_held_drew (S:=(fun W:World=>Hid (∃ V,G5 w W g PV V)∧W.cell? ⟨g,17,none⟩=some (.int .i64 3)∧W.cell? ⟨g,18,none⟩=some (.int .i32 (c:Int)))) (by kernel_rfl) (ST4 _ _ HX.out.drew) (fun hHeld=>?_);refine' qt 0 hHeld ?_
    try simp only [pk]
    refine' qt 1 hHeld ?_
    try simp only [pk]
    refine' qt 2 hHeld ?_
    try simp only [pk]
    refine' qt 3 hHeld ?_
    try simp only [pk]
    refine qp 4 fun K hK=>?_
    go_simp;refine (qB2 c _ HC.out).mono ?_;rintro e w1 ⟨A9,m9,c9,rfl,ho9,hm9,hb9⟩;have hcv:=qAR ho9 (qBH HC.out);have hG:=G4.out.drew.below hb9;have hS:=ST4 _ _ hG;have hm94:m9≤4:=by rw [hm9]; exact qC6 c
    clear hHeld ho9 hb9 hm9
    go_wp2_with fail
    refine hK.out _ _ hS (fun hHeld=>?_);clear hK K hS
    try simp only [pk]
    refine qp 5 fun K hK=>?_
    go_simp;refine hK.out _ _ hHeld (fun hHeld=>?_);clear hK K
    try simp only [pk]
    refine' qt 6 hHeld ?_
    try simp only [pk]
    refine' qt 7 hHeld ?_
    try simp only [pk]
    refine qp 8 fun K hK=>?_
    have hf8:=hG.by_.fr 3;have hc8:=hG.by_.c 3;go_simp;refine hK.out _ _ (ST4 _ _ (hG.set 3 _)) (fun hHeld=>?_);clear hK K
    try simp only [pk]
    refine wpAnyH_done (by kernel_rfl) ?_ _;have HY:=hid (hG.set 3 (.string ((⟨#[42]⟩:ByteArray)++stz (encN c))));clear hHeld ST4 hG hcv hm94 G4 HX m42;generalize World.setCell _ ⟨g+1,3,none⟩ (.string ((⟨#[42]⟩:ByteArray)++stz (encN c)))=W4 at *;have c18:=(HY.out.bx.c 18).trans k18
    by_cases h39:c=39
    · subst h39
      have HZ:=hid (HY.out.set 3 (.string ⟨#[42,39,39]⟩));have e1:=HY.out.by_.c 3;have e2:=HY.out.by_.fr 3;have c17:=(HY.out.bx.c 17).trans k17
      go_upto_region 7 with fail
      clear e1 e2 c17 c18 HY;generalize W4.setCell ⟨g+1,3,none⟩ (.string ⟨#[42,39,39]⟩)=W5 at *;have HY:=hid (show G5 w W5 g PV (pd5 3 ((39:Nat):Int)) by rw [← HV.out (by decide) (by decide),show pdB 3 ((39:Nat):Int) 3=⟨#[42,39,39]⟩ from pdB_39 3]; exact HZ.out);generalize hV4:pd5 3 ((39:Nat):Int)=V4 at *;have hV4:=hid hV4;have ST7:∀ W,G5 w W g PV V4→Hid (G5 w W g PV V4)∧W.cell? ⟨g,0,none⟩=some (.slice A0 n0 c0)∧W.cell? ⟨g,1,none⟩=some (.slice A1 n1 c1)∧W.cell? ⟨g,19,none⟩=some (.int .i64 wd):=fun W x=>⟨hid x,(x.bx.c 0).trans k0,(x.bx.c 1).trans k1,(x.bx.c 19).trans k19⟩
      have r1:IntKind.i64.wrap (wd - (n0:Int))=wd - (n0:Int):=IntWalk.i64_in _ (by omega);have r2:IntKind.i64.wrap (wd - (n0:Int) - (n1:Int))=wd - (n0:Int) - (n1:Int):=IntWalk.i64_in _ (by omega);have r3:IntKind.i64.wrap (wd - (n0:Int) - (n1:Int) - (F0.size:Int))=wd - (n0:Int) - (n1:Int) - (F0.size:Int):=IntWalk.i64_in _ (by omega);refine wp_region_held_drew (S:=(fun W:World=>Hid (G5 w W g PV V4)∧W.cell? ⟨g,0,none⟩=some (.slice A0 n0 c0)∧W.cell? ⟨g,1,none⟩=some (.slice A1 n1 c1)∧W.cell? ⟨g,19,none⟩=some (.int .i64 wd))) (by kernel_rfl) (ST7 _ HY.out.drew) (fun hHeld=>?_);refine' qt 0 hHeld ?_
      try simp only [pk]
      refine' qt 1 hHeld ?_
      try simp only [pk]
      refine' qt 2 hHeld ?_
      try simp only [pk]
      refine' qt 3 hHeld ?_
      try simp only [pk]
      refine' qt 4 hHeld ?_
      try simp only [pk]
      refine' qt 5 hHeld ?_
      try simp only [pk]
      refine' qt 6 hHeld ?_
      try simp only [pk]
      refine' qt 7 hHeld ?_
      try simp only [pk]
      refine' qt 8 hHeld ?_
      try simp only [pk]
      refine' qt 9 hHeld ?_
      try simp only [pk]
      refine ql 10 hHeld (fun _ h=>h.1.out.bx) Tryz.underlying24 hsz ?_
      try simp only [pk]
      refine qk 11 (HN0.out _) (fun W hb=>ST7 W (hHeld.1.out.below hb)) fun W hHeld _=>?_
      try simp only [pk]
      refine' qt 12 hHeld ?_
      try simp only [pk]
      refine' qt 13 hHeld ?_
      try simp only [pk]
      refine' qt 14 hHeld ?_
      try simp only [pk]
      refine wpAnyH_done (by kernel_rfl) ?_ _;have HYe:=hHeld.1;clear hHeld ST7
      go_wp2
      go_meet
      exact ⟨by rw [HMO3.out],HYe.out⟩
    · have g39:((c:Int) == 39)=false:=by simp; omega
      go_upto_region 7 with fail
      clear c18 g39;have HY:=hid (show G5 w W4 g PV (pd5 3 c) by rw [← HV.out (by decide) (by decide),HB.out h39]; exact HY.out);generalize hV4:pd5 3 (c:Int)=V4 at *;have hV4:=hid hV4;have ST7:∀ W,G5 w W g PV V4→Hid (G5 w W g PV V4)∧W.cell? ⟨g,0,none⟩=some (.slice A0 n0 c0)∧W.cell? ⟨g,1,none⟩=some (.slice A1 n1 c1)∧W.cell? ⟨g,19,none⟩=some (.int .i64 wd):=fun W x=>⟨hid x,(x.bx.c 0).trans k0,(x.bx.c 1).trans k1,(x.bx.c 19).trans k19⟩
      have r1:IntKind.i64.wrap (wd - (n0:Int))=wd - (n0:Int):=IntWalk.i64_in _ (by omega);have r2:IntKind.i64.wrap (wd - (n0:Int) - (n1:Int))=wd - (n0:Int) - (n1:Int):=IntWalk.i64_in _ (by omega);have r3:IntKind.i64.wrap (wd - (n0:Int) - (n1:Int) - (F0.size:Int))=wd - (n0:Int) - (n1:Int) - (F0.size:Int):=IntWalk.i64_in _ (by omega);refine wp_region_held_drew (S:=(fun W:World=>Hid (G5 w W g PV V4)∧W.cell? ⟨g,0,none⟩=some (.slice A0 n0 c0)∧W.cell? ⟨g,1,none⟩=some (.slice A1 n1 c1)∧W.cell? ⟨g,19,none⟩=some (.int .i64 wd))) (by kernel_rfl) (ST7 _ HY.out.drew) (fun hHeld=>?_);refine' qt 0 hHeld ?_
      try simp only [pk]
      refine' qt 1 hHeld ?_
      try simp only [pk]
      refine' qt 2 hHeld ?_
      try simp only [pk]
      refine' qt 3 hHeld ?_
      try simp only [pk]
      refine' qt 4 hHeld ?_
      try simp only [pk]
      refine' qt 5 hHeld ?_
      try simp only [pk]
      refine' qt 6 hHeld ?_
      try simp only [pk]
      refine' qt 7 hHeld ?_
      try simp only [pk]
      refine' qt 8 hHeld ?_
      try simp only [pk]
      refine' qt 9 hHeld ?_
      try simp only [pk]
      refine ql 10 hHeld (fun _ h=>h.1.out.bx) Tryz.underlying24 hsz ?_
      try simp only [pk]
      refine qk 11 (HN0.out _) (fun W hb=>ST7 W (hHeld.1.out.below hb)) fun W hHeld _=>?_
      try simp only [pk]
      refine' qt 12 hHeld ?_
      try simp only [pk]
      refine' qt 13 hHeld ?_
      try simp only [pk]
      refine' qt 14 hHeld ?_
      try simp only [pk]
      refine wpAnyH_done (by kernel_rfl) ?_ _;have HYe:=hHeld.1;clear hHeld ST7
      go_wp2
      go_meet
      exact ⟨by rw [HMO3.out],HYe.out⟩
  · have HMO3:=hid (hmo3 (by decide))
    clear hmo2 hmo3
    go_upto_region 4 with fail
    have ST4:∀ W V,G5 w W g PV V→Hid (∃ V,G5 w W g PV V)∧W.cell? ⟨g,17,none⟩=some (.int .i64 4)∧W.cell? ⟨g,18,none⟩=some (.int .i32 (c:Int)):=fun W V x=>⟨hid ⟨V,x⟩,(x.bx.c 17).trans k17,(x.bx.c 18).trans k18⟩
    have G4:=HX;have m42:¬ 9223372036854775807 < 1+(stz (encN c)).size:=by rw [qA9]; have:=qC6 c; omega
    refine wp_region_held_drew (S:=(fun W:World=>Hid (∃ V,G5 w W g PV V)∧W.cell? ⟨g,17,none⟩=some (.int .i64 4)∧W.cell? ⟨g,18,none⟩=some (.int .i32 (c:Int)))) (by kernel_rfl) (ST4 _ _ HX.out.drew) (fun hHeld=>?_);refine' qt 0 hHeld ?_
    try simp only [pk]
    refine' qt 1 hHeld ?_
    try simp only [pk]
    refine' qt 2 hHeld ?_
    try simp only [pk]
    refine' qt 3 hHeld ?_
    try simp only [pk]
    refine qp 4 fun K hK=>?_
    go_simp;refine (qB2 c _ HC.out).mono ?_;rintro e w1 ⟨A9,m9,c9,rfl,ho9,hm9,hb9⟩;have hcv:=qAR ho9 (qBH HC.out);have hG:=G4.out.drew.below hb9;have hS:=ST4 _ _ hG;have hm94:m9≤4:=by rw [hm9]; exact qC6 c
    clear hHeld ho9 hb9 hm9
    go_wp2_with fail
    refine hK.out _ _ hS (fun hHeld=>?_);clear hK K hS
    try simp only [pk]
    refine qp 5 fun K hK=>?_
    go_simp;refine hK.out _ _ hHeld (fun hHeld=>?_);clear hK K
    try simp only [pk]
    refine' qt 6 hHeld ?_
    try simp only [pk]
    refine' qt 7 hHeld ?_
    try simp only [pk]
    refine qp 8 fun K hK=>?_
    have hf8:=hG.by_.fr 4;have hc8:=hG.by_.c 4;go_simp;refine hK.out _ _ (ST4 _ _ (hG.set 4 _)) (fun hHeld=>?_);clear hK K
    try simp only [pk]
    refine wpAnyH_done (by kernel_rfl) ?_ _;have HY:=hid (hG.set 4 (.string ((⟨#[42]⟩:ByteArray)++stz (encN c))));clear hHeld ST4 hG hcv hm94 G4 HX m42;generalize World.setCell _ ⟨g+1,4,none⟩ (.string ((⟨#[42]⟩:ByteArray)++stz (encN c)))=W4 at *;have c18:=(HY.out.bx.c 18).trans k18
    by_cases h39:c=39
    · subst h39
      have HZ:=hid (HY.out.set 4 (.string ⟨#[42,39,39]⟩));have e1:=HY.out.by_.c 4;have e2:=HY.out.by_.fr 4;have c17:=(HY.out.bx.c 17).trans k17
      go_upto_region 7 with fail
      clear e1 e2 c17 c18 HY;generalize W4.setCell ⟨g+1,4,none⟩ (.string ⟨#[42,39,39]⟩)=W5 at *;have HY:=hid (show G5 w W5 g PV (pd5 4 ((39:Nat):Int)) by rw [← HV.out (by decide) (by decide),show pdB 4 ((39:Nat):Int) 4=⟨#[42,39,39]⟩ from pdB_39 4]; exact HZ.out);generalize hV4:pd5 4 ((39:Nat):Int)=V4 at *;have hV4:=hid hV4;have ST7:∀ W,G5 w W g PV V4→Hid (G5 w W g PV V4)∧W.cell? ⟨g,0,none⟩=some (.slice A0 n0 c0)∧W.cell? ⟨g,1,none⟩=some (.slice A1 n1 c1)∧W.cell? ⟨g,19,none⟩=some (.int .i64 wd):=fun W x=>⟨hid x,(x.bx.c 0).trans k0,(x.bx.c 1).trans k1,(x.bx.c 19).trans k19⟩
      have r1:IntKind.i64.wrap (wd - (n0:Int))=wd - (n0:Int):=IntWalk.i64_in _ (by omega);have r2:IntKind.i64.wrap (wd - (n0:Int) - (n1:Int))=wd - (n0:Int) - (n1:Int):=IntWalk.i64_in _ (by omega);have r3:IntKind.i64.wrap (wd - (n0:Int) - (n1:Int) - (F0.size:Int))=wd - (n0:Int) - (n1:Int) - (F0.size:Int):=IntWalk.i64_in _ (by omega);refine wp_region_held_drew (S:=(fun W:World=>Hid (G5 w W g PV V4)∧W.cell? ⟨g,0,none⟩=some (.slice A0 n0 c0)∧W.cell? ⟨g,1,none⟩=some (.slice A1 n1 c1)∧W.cell? ⟨g,19,none⟩=some (.int .i64 wd))) (by kernel_rfl) (ST7 _ HY.out.drew) (fun hHeld=>?_);refine' qt 0 hHeld ?_
      try simp only [pk]
      refine' qt 1 hHeld ?_
      try simp only [pk]
      refine' qt 2 hHeld ?_
      try simp only [pk]
      refine' qt 3 hHeld ?_
      try simp only [pk]
      refine' qt 4 hHeld ?_
      try simp only [pk]
      refine' qt 5 hHeld ?_
      try simp only [pk]
      refine' qt 6 hHeld ?_
      try simp only [pk]
      refine' qt 7 hHeld ?_
      try simp only [pk]
      refine' qt 8 hHeld ?_
      try simp only [pk]
      refine' qt 9 hHeld ?_
      try simp only [pk]
      refine ql 10 hHeld (fun _ h=>h.1.out.bx) Tryz.underlying24 hsz ?_
      try simp only [pk]
      refine qk 11 (HN0.out _) (fun W hb=>ST7 W (hHeld.1.out.below hb)) fun W hHeld _=>?_
      try simp only [pk]
      refine' qt 12 hHeld ?_
      try simp only [pk]
      refine' qt 13 hHeld ?_
      try simp only [pk]
      refine' qt 14 hHeld ?_
      try simp only [pk]
      refine wpAnyH_done (by kernel_rfl) ?_ _;have HYe:=hHeld.1;clear hHeld ST7
      go_wp2
      go_meet
      exact ⟨by rw [HMO3.out],HYe.out⟩
    · have g39:((c:Int) == 39)=false:=by simp; omega
      go_upto_region 7 with fail
      clear c18 g39;have HY:=hid (show G5 w W4 g PV (pd5 4 c) by rw [← HV.out (by decide) (by decide),HB.out h39]; exact HY.out);generalize hV4:pd5 4 (c:Int)=V4 at *;have hV4:=hid hV4;have ST7:∀ W,G5 w W g PV V4→Hid (G5 w W g PV V4)∧W.cell? ⟨g,0,none⟩=some (.slice A0 n0 c0)∧W.cell? ⟨g,1,none⟩=some (.slice A1 n1 c1)∧W.cell? ⟨g,19,none⟩=some (.int .i64 wd):=fun W x=>⟨hid x,(x.bx.c 0).trans k0,(x.bx.c 1).trans k1,(x.bx.c 19).trans k19⟩
      have r1:IntKind.i64.wrap (wd - (n0:Int))=wd - (n0:Int):=IntWalk.i64_in _ (by omega);have r2:IntKind.i64.wrap (wd - (n0:Int) - (n1:Int))=wd - (n0:Int) - (n1:Int):=IntWalk.i64_in _ (by omega);have r3:IntKind.i64.wrap (wd - (n0:Int) - (n1:Int) - (F0.size:Int))=wd - (n0:Int) - (n1:Int) - (F0.size:Int):=IntWalk.i64_in _ (by omega);refine wp_region_held_drew (S:=(fun W:World=>Hid (G5 w W g PV V4)∧W.cell? ⟨g,0,none⟩=some (.slice A0 n0 c0)∧W.cell? ⟨g,1,none⟩=some (.slice A1 n1 c1)∧W.cell? ⟨g,19,none⟩=some (.int .i64 wd))) (by kernel_rfl) (ST7 _ HY.out.drew) (fun hHeld=>?_);refine' qt 0 hHeld ?_
      try simp only [pk]
      refine' qt 1 hHeld ?_
      try simp only [pk]
      refine' qt 2 hHeld ?_
      try simp only [pk]
      refine' qt 3 hHeld ?_
      try simp only [pk]
      refine' qt 4 hHeld ?_
      try simp only [pk]
      refine' qt 5 hHeld ?_
      try simp only [pk]
      refine' qt 6 hHeld ?_
      try simp only [pk]
      refine' qt 7 hHeld ?_
      try simp only [pk]
      refine' qt 8 hHeld ?_
      try simp only [pk]
      refine' qt 9 hHeld ?_
      try simp only [pk]
      refine ql 10 hHeld (fun _ h=>h.1.out.bx) Tryz.underlying24 hsz ?_
      try simp only [pk]
      refine qk 11 (HN0.out _) (fun W hb=>ST7 W (hHeld.1.out.below hb)) fun W hHeld _=>?_
      try simp only [pk]
      refine' qt 12 hHeld ?_
      try simp only [pk]
      refine' qt 13 hHeld ?_
      try simp only [pk]
      refine' qt 14 hHeld ?_
      try simp only [pk]
      refine wpAnyH_done (by kernel_rfl) ?_ _;have HYe:=hHeld.1;clear hHeld ST7
      go_wp2
      go_meet
      exact ⟨by rw [HMO3.out],HYe.out⟩
 case rest=>
 obtain ⟨rfl,hG⟩:=hcut
 have HY:=hid hG
 clear hG hmo2 hmo3 HV HV0 HB
 have v1:(pd5 at_ (c:Int))[1]? = some (.string (pdB at_ (c:Int) 1)):=rfl
 have v2:(pd5 at_ (c:Int))[2]? = some (.string (pdB at_ (c:Int) 2)):=rfl
 have v3:(pd5 at_ (c:Int))[3]? = some (.string (pdB at_ (c:Int) 3)):=rfl
 have v4:(pd5 at_ (c:Int))[4]? = some (.string (pdB at_ (c:Int) 4)):=rfl
 generalize pd5 at_ (c:Int)=V5 at *
 generalize hP1:pdB at_ (c:Int) 1=P1 at *
 have HP1:=hid hP1
 clear hP1
 generalize hP2:pdB at_ (c:Int) 2=P2 at *
 have HP2:=hid hP2
 clear hP2
 generalize hP3:pdB at_ (c:Int) 3=P3 at *
 have HP3:=hid hP3
 clear hP3
 generalize hP4:pdB at_ (c:Int) 4=P4 at *
 have HP4:=hid hP4
 clear hP4
 go_step
 go_upto_region 8 with fail
 have ST8:∀ W,G5 w W g PV V5→Hid (G5 w W g PV V5)∧W.cell? ⟨g,0,none⟩=some (.slice A0 n0 c0)∧W.cell? ⟨g,1,none⟩=some (.slice A1 n1 c1)∧W.cell? ⟨g+1,1,none⟩=some (.string P1)∧W.cell? ⟨g+1,2,none⟩=some (.string P2)∧W.cell? ⟨g+1,3,none⟩=some (.string P3)∧W.cell? ⟨g+1,4,none⟩=some (.string P4):=fun W x=>⟨hid x,(x.bx.c 0).trans k0,(x.bx.c 1).trans k1,(x.by_.c 1).trans v1,(x.by_.c 2).trans v2,(x.by_.c 3).trans v3,(x.by_.c 4).trans v4⟩
 have m1:¬ 9223372036854775807 < P1.size+S0.size:=by omega
 have m2:¬ 9223372036854775807 < P1.size+S0.size+P2.size:=by omega
 have m3:¬ 9223372036854775807 < P1.size+S0.size+P2.size+TP.size:=by omega
 have m4:¬ 9223372036854775807 < P1.size+S0.size+P2.size+TP.size+P3.size:=by omega
 have m5:¬ 9223372036854775807 < P1.size+S0.size+P2.size+TP.size+P3.size+S1.size:=by omega
 have m6:¬ 9223372036854775807 < P1.size+S0.size+P2.size+TP.size+P3.size+S1.size+P4.size:=by omega
 refine wp_region_held_drew (S:=(fun W:World=>Hid (G5 w W g PV V5)∧W.cell? ⟨g,0,none⟩=some (.slice A0 n0 c0)∧W.cell? ⟨g,1,none⟩=some (.slice A1 n1 c1)∧W.cell? ⟨g+1,1,none⟩=some (.string P1)∧W.cell? ⟨g+1,2,none⟩=some (.string P2)∧W.cell? ⟨g+1,3,none⟩=some (.string P3)∧W.cell? ⟨g+1,4,none⟩=some (.string P4))) (by kernel_rfl) (ST8 _ HY.out.drew) (fun hHeld=>?_)
 refine' qt 0 hHeld ?_
 try simp only [pk]
 refine' qt 1 hHeld ?_
 try simp only [pk]
 refine' qt 2 hHeld ?_
 try simp only [pk]
 refine' qt 3 hHeld ?_
 try simp only [pk]
 refine' qt 6 hHeld ?_
 try simp only [pk]
 refine' qt 7 hHeld ?_
 try simp only [pk]
 refine ql 9 hHeld (fun _ h=>h.1.out.bx) Tryz.underlying24 hsz ?_
 try simp only [pk]
 refine' qt 10 hHeld ?_
 try simp only [pk]
 refine' qt 13 hHeld ?_
 try simp only [pk]
 refine' qt 14 hHeld ?_
 try simp only [pk]
 refine' qt 16 hHeld ?_
 try simp only [pk]
 refine' qt 17 hHeld ?_
 try simp only [pk]
 refine' qt 20 hHeld ?_
 try simp only [pk]
 refine' qt 21 hHeld ?_
 try simp only [pk]
 refine qk 4 (HA0.out _ (Hg.out ▸ hHeld.1.out.b)) (fun W hb=>ST8 W (hHeld.1.out.below hb)) fun W hHeld _=>?_
 try simp only [pk]
 refine' qt 5 hHeld ?_
 try simp only [pk]
 refine' qt 8 hHeld ?_
 try simp only [pk]
 refine qk 11 (HNM.out _) (fun W hb=>ST8 W (hHeld.1.out.below hb)) fun W hHeld _=>?_
 try simp only [pk]
 refine' qt 12 hHeld ?_
 try simp only [pk]
 refine' qt 15 hHeld ?_
 try simp only [pk]
 refine qk 18 (HA1.out _ (Hg.out ▸ hHeld.1.out.b)) (fun W hb=>ST8 W (hHeld.1.out.below hb)) fun W hHeld _=>?_
 try simp only [pk]
 refine' qt 19 hHeld ?_
 try simp only [pk]
 refine' qt 22 hHeld ?_
 try simp only [pk]
 refine' qt 23 hHeld ?_
 try simp only [pk]
 refine wpAnyH_done (by kernel_rfl) ?_ _
 have HY:=hHeld.1
 clear hHeld ST8
 have c2:=(HY.out.bx.c 2).trans k2
 rcases ng with _ | _
 · go_wp2
   go_ret
   exact ⟨congrArg Ending.returned (congrArg Value.string (qDS (by simp only [qAP,if_neg (show ¬ (false=true) by decide),bts_nil,List.append_nil,HP1.out,HP2.out,HP3.out,HP4.out]))),Hg.out ▸ HY.out.b⟩
 go_upto_region 10 with fail
 clear c2
 have j1:¬ 9223372036854775807 < P1.size+S0.size+P2.size+TP.size+P3.size+S1.size+P4.size+1:=by omega
 have j2:¬ 9223372036854775807 < P1.size+S0.size+P2.size+TP.size+P3.size+S1.size+P4.size+1+S3.size:=by omega
 have j3:¬ 9223372036854775807 < P1.size+S0.size+P2.size+TP.size+P3.size+S1.size+P4.size+1+S3.size+1:=by omega
 have j4:¬ 9223372036854775807 < P1.size+S0.size+P2.size+TP.size+P3.size+S1.size+P4.size+1+S3.size+1+S4.size:=by omega
 have ST10:∀ W,G5 w W g PV V5→Hid (G5 w W g PV V5)∧W.cell? ⟨g,3,none⟩=some (.slice A3 n3 c3)∧W.cell? ⟨g,4,none⟩=some (.slice A4 n4 c4):=fun W x=>⟨hid x,(x.bx.c 3).trans k3,(x.bx.c 4).trans k4⟩
 refine wp_region_held_drew (S:=(fun W:World=>Hid (G5 w W g PV V5)∧W.cell? ⟨g,3,none⟩=some (.slice A3 n3 c3)∧W.cell? ⟨g,4,none⟩=some (.slice A4 n4 c4))) (by kernel_rfl) (ST10 _ HY.out.drew) (fun hHeld=>?_)
 refine' qt 0 hHeld ?_
 try simp only [pk]
 refine' qt 1 hHeld ?_
 try simp only [pk]
 refine' qt 2 hHeld ?_
 try simp only [pk]
 refine' qt 3 hHeld ?_
 try simp only [pk]
 refine' qt 7 hHeld ?_
 try simp only [pk]
 refine' qt 8 hHeld ?_
 try simp only [pk]
 refine qk 4 (HA3.out _ (Hg.out ▸ hHeld.1.out.b)) (fun W hb=>ST10 W (hHeld.1.out.below hb)) fun W hHeld _=>?_
 try simp only [pk]
 refine' qt 5 hHeld ?_
 try simp only [pk]
 refine' qt 6 hHeld ?_
 try simp only [pk]
 refine qk 9 (HA4.out _ (Hg.out ▸ hHeld.1.out.b)) (fun W hb=>ST10 W (hHeld.1.out.below hb)) fun W hHeld _=>?_
 try simp only [pk]
 refine' qt 10 hHeld ?_
 try simp only [pk]
 refine' qt 11 hHeld ?_
 try simp only [pk]
 refine wpAnyH_done (by kernel_rfl) ?_ _
 have HY:=hHeld.1
 clear hHeld ST10
 go_wp2
 go_ret
 exact ⟨congrArg Ending.returned (congrArg Value.string (qDS (by simp only [qAP,if_pos (show true=true from rfl),List.append_assoc,HP1.out,HP2.out,HP3.out,HP4.out]))),Hg.out ▸ HY.out.b⟩
end Go.Proofs.YtnoeonaajefajaaGreatDoor
