import Derived.Test.YtmeaiaecmmglnaaGreatDoorMB
import Derived.Test.YtmeaiaecmmglnaaGreatDoorTG
set_option linter.all false
set_option maxRecDepth 100000
namespace Go.Proofs.YtmeaiaecmmglnaaGreatDoor
open Go.RowKit
open Lib (hid)
set_option maxHeartbeats 1000000 in
theorem refRow_c (A:Option Addr) (n c:Nat) (zs:List Int) (w:World) (h:Rns w A n zs) (hn:n≤1000000000) (hz:zs.all isZ=true):Calls Tryz.prog 47 #[.slice A n c] w fun e w'=>
 e=.returned (.string (stz (encs (nats (inQ zs)))))∧Below w.heap.size w w':=by
 have HL:=hid h.len
 have H:=hid h
 have HZ:=hid hz
 clear h hz
 generalize hg:w.heap.size=g at *
 have Hg:=hid hg
 clear hg
 have B0:=hid (show Below g w w by rw [← Hg.out]; exact Below.refl _ _)
 go_enter Tryz.func47,Tryz.ntmps47
 go_wp2
 go_loopw [3,4,5] (fun sv av iv wr=>∃ (k:Nat) (bs:List Nat),k≤n∧iv=.int .i64 (k:Int)∧bs=encs (nats (dbl (zs.take k)))∧sv=.string (stz bs)∧av=.bool ((zs.take k).all (fun r=>decide (r=39)))∧Below g w wr) (fun _ _ iv _=>n - (intOf iv).toNat)
 case atStart=>exact ⟨0,[],Nat.zero_le _,rfl,rfl,rfl,rfl,B0.out⟩
 case round=>
  obtain ⟨k,bs,hk,rfl,hbs0,rfl,rfl,hb0⟩:=hrel;have HBS:=hid hbs0;have HB:=hid hb0;have hgs:g≤wr.heap.size:=by have:=hb0.size; have:=Hg.out; omega
  have HR:=hid (H.out.below (w':=wr) (by rw [Hg.out]; exact hb0));have hsz:(stz bs).size≤8 * k:=by
   rw [qAC,hbs0];have h1:=qHI (nats (dbl (zs.take k)));rw [qFA] at h1;have h2:=dbl_len (zs.take k);rw [List.length_take] at h2;omega
  clear hbs0 hb0
  by_cases hlt:k < n
  · obtain ⟨ad,rfl,_,hc,_,_⟩:=HR.out.at_ hlt
    have hzk:isZ (zs.getD k 0)=true:=List.all_eq_true.1 HZ.out _ (getD_mem (by rw [HL.out]; exact hlt));have HST:=hid (qIC zs (k:=k) (by rw [HL.out]; exact hlt));have hnn:=(qBC.1 hzk).1;obtain ⟨x,hx⟩:∃ x:Nat,zs.getD k 0=(x:Int):=⟨(zs.getD k 0).toNat,by omega⟩;rw [hx] at hc hzk HST;rw [qBG] at hzk;have HXC:=hid hzk;clear hx hzk hnn
    go_wp2_with fail
    refine (qBJ x _ HXC.out).mono ?_;rintro e w1 ⟨A1,m1,c1,rfl,ho1,hm1,hb1⟩;have HB1:=hid (HB.out.trans (hb1.mono hgs));have HR1:=hid (HR.out.below hb1);have hm14:m1≤4:=by rw [hm1]; exact qF7 x
    have hcv:=qAZ ho1 (qC0 HXC.out);have hs1:(stz (encN x)).size≤4:=by rw [qAC]; exact qF7 x
    have hc1:w1.cell? (ad.add k)=some (.int .i32 (x:Int)):=(hb1.cell (p:=ad.add k) (by rw [qA8]; assumption)).trans hc;clear hb1 ho1 hc hm1
    by_cases hx:x=39
    · subst hx
      rw [show ((39:Nat):Int)=39 from rfl] at hc1 HST
      go_wp2
      go_roundw
      case rel=>
       refine ⟨k+1,bs++encN 39++[39],by omega,by go_num,?_,?_,?_,HB1.out⟩
       · rw [HST.out,qII,dbl_one,if_pos rfl,qAU,qAF,← HBS.out,List.append_assoc]; rfl
       · rw [qB8,qB8]; rfl
       · rw [HST.out,List.all_append]; simp
      case measure=>simp [intOf]; omega
    · have hx39:((x:Int) == 39)=false:=by simp; omega
      have hx40:¬ ((x:Int)=39):=by omega
      have HX:=hid hx40;clear hx40
      go_wp2
      go_roundw
      case rel=>
       refine ⟨k+1,bs++encN x,by omega,by go_num,?_,?_,?_,HB1.out⟩
       · rw [HST.out,qII,dbl_one,if_neg HX.out,qAU,qAF,← HBS.out]
         show _=bs++encs [x]
         rw [qGY]
       · rw [qB8]
       · rw [HST.out,List.all_append]; simp [HX.out]
      case measure=>simp [intOf]; omega
  · have hT:zs.take k=zs:=List.take_of_length_le (by rw [HL.out]; omega)
    rw [hT] at HBS;rw [hT];clear hT;have hbb:=HBS.out
    rcases ha:zs.all (fun r=>decide (r=39)) with _ | _
    · have HQ:=hid (show stz (encs (nats (inQ zs)))=⟨#[39]⟩++stz bs++⟨#[39]⟩ by
       rw [inQ,ha,hbb]
       show stz (encs (39 :: nats (dbl zs++[39])))=_
       rw [qAB,qAU,qAF,qB8,qB8,← ByteArray.append_assoc]; rfl)
      clear ha hbb
      go_wp2
      go_ret
      rw [HQ.out];exact ⟨rfl,HB.out⟩
    · have HQ:=hid (show stz (encs (nats (inQ zs)))=stz bs by rw [inQ,ha,hbb]; rfl)
      clear ha hbb
      go_wp2
      go_ret
      rw [HQ.out];exact ⟨rfl,HB.out⟩
end Go.Proofs.YtmeaiaecmmglnaaGreatDoor
