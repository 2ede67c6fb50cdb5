import Derived.Test.YtmeaiaecmmglnaaGreatDoorNM2
import Derived.Test.YtmeaiaecmmglnaaGreatDoorMC
set_option linter.all false
set_option maxRecDepth 100000
namespace Go.Proofs.YtmeaiaecmmglnaaGreatDoor
open Go.RowKit
open Lib (hid)
theorem qHZ {c:Nat} {l:List Nat} (h:∀ b ∈ l,b < 256):∀ b ∈ upA c l,b < 256:=fun b hb=>h b ((List.takeWhile_sublist _).subset hb)
theorem dn_lt {c:Nat} {l:List Nat} (h:∀ b ∈ l,b < 256):∀ b ∈ dnA c l,b < 256:=fun b hb=>h b ((List.dropWhile_sublist _).subset (List.mem_of_mem_drop hb))
theorem qI0 (c:Nat) (l:List Nat):(upA c l).length≤l.length:=(List.takeWhile_sublist _).length_le
theorem dn_len (c:Nat) (l:List Nat):(dnA c l).length≤l.length:=by
 unfold dnA
 rw [List.length_drop]
 have:=qBF (· != c) l
 omega
theorem pln_lt {l:List Nat} (h:∀ b ∈ l,b < 256):∀ b ∈ pln l,b < 256:=fun b hb=>h b (List.mem_filter.1 hb).1
structure CX (w0 W:World) (r h:Nat) (T:TypeId) (zs vs:Array Value):Prop where
 m0:Mw w0
 b:Below w0.heap.size w0 W
 br:BX W r zs T
 bh:BX W h vs T
 h0:w0.heap.size≤r
 h1:r < h
section
variable {w0 W:World} {r h:Nat} {T:TypeId} {zs vs:Array Value}
theorem CX.mw (x:CX w0 W r h T zs vs):Mw W:=x.m0.below x.b
theorem CX.set (x:CX w0 W r h T zs vs) (j:Nat) (v:Value):CX w0 (W.setCell ⟨h,j,none⟩ v) r h T zs (vs.setIfInBounds j v):=
 ⟨x.m0,x.b.setCell (p:=⟨h,j,none⟩) (by have:=x.h0; have:=x.h1; show _≤h; omega) v,(heap_setCell_other W ⟨h,j,none⟩ r v (Nat.ne_of_lt x.h1)).trans x.br,heap_setCell_same W h j vs T v x.bh,x.h0,x.h1⟩
theorem CX.setr (x:CX w0 W r h T zs vs) (j:Nat) (v:Value):CX w0 (W.setCell ⟨r,j,none⟩ v) r h T (zs.setIfInBounds j v) vs:=
 ⟨x.m0,x.b.setCell (p:=⟨r,j,none⟩) x.h0 v,heap_setCell_same W r j zs T v x.br,(heap_setCell_other W ⟨r,j,none⟩ h v (Nat.ne_of_gt x.h1)).trans x.bh,x.h0,x.h1⟩
theorem CX.below {W':World} (x:CX w0 W r h T zs vs) (hb:Below W.heap.size W W'):CX w0 W' r h T zs vs:=
 ⟨x.m0,x.b.trans (hb.mono x.b.size),x.br.below hb x.br.lt,x.bh.below hb x.bh.lt,x.h0,x.h1⟩
theorem CX.drewN (x:CX w0 W r h T zs vs) (n:Nat):CX w0 (W.drewN n) r h T zs vs:=⟨x.m0,x.b.of_drewN n,x.br,x.bh,x.h0,x.h1⟩
theorem CX.to {vs':Array Value} (x:CX w0 W r h T zs vs) (e:vs=vs'):CX w0 W r h T zs vs':=e ▸ x
theorem CX.tor {zs':Array Value} (x:CX w0 W r h T zs vs) (e:zs=zs'):CX w0 W r h T zs' vs:=e ▸ x
theorem CX.new (hm:Mw w0):CX w0 ((w0.alloc (.cells zs T)).alloc (.cells vs T)) w0.heap.size (w0.heap.size+1) T zs vs:=
 ⟨hm,((Below.refl _ _).alloc (Nat.le_refl _) _).alloc (by simp) _,(BX.new w0 zs T).alloc _,by have:=BX.new (w0.alloc (.cells zs T)) vs T; simpa using this,Nat.le_refl _,Nat.lt_succ_self _⟩
end
set_option maxHeartbeats 2000000 in
theorem cut15_c (s:ByteArray) (w:World) (hM:Mw w) (hs:s.size < 4294967281):Calls Tryz.prog 58 #[.string s] w fun e w'=>
 e=.returned (.agg (ptV (stz (cutP (bts s)).main) (cutP (bts s)).sci (stz (cutP (bts s)).exp) (stz (cutP (bts s)).whole) (stz (cutP (bts s)).frac) (cutP (bts s)).pointed (stz (cutP (bts s)).bare)))∧Below w.heap.size w w':=by
 have hlt:=qAP s
 have hm:=qAM (qHZ (c:=69) hlt)
 have hw:=qAM (qHZ (c:=46) (qHZ (c:=69) hlt))
 have hms:(stz (upA 69 (bts s))).size < 4294967281:=by have:=qI0 69 (bts s); rw [qA1] at this; rw [qAC]; omega
 have hws:(stz (upA 46 (upA 69 (bts s)))).size < 4294967281:=by have:=qI0 69 (bts s); have h2:=qI0 46 (upA 69 (bts s)); rw [qA1] at this; rw [qAC]; omega
 have H1:Hid (∀ W,Mw W→Calls Tryz.prog 75 #[.string s,.string ⟨#[69]⟩] W fun e w'=>
  e=.returned (.tuple #[.string (stz (upA 69 (bts s))),.string (stz (dnA 69 (bts s))),.bool ((bts s).any (· == 69))])∧∃ n,w'=W.drewN n):=hid (fun W h=>strCut_c s 69 W h hs)
 have H2:Hid (∀ W,Mw W→Calls Tryz.prog 75 #[.string (stz (upA 69 (bts s))),.string ⟨#[46]⟩] W fun e w'=>
  e=.returned (.tuple #[.string (stz (upA 46 (upA 69 (bts s)))),.string (stz (dnA 46 (upA 69 (bts s)))),.bool ((upA 69 (bts s)).any (· == 46))])∧∃ n,w'=W.drewN n):=hid (fun W h=>by
   have:=strCut_c (stz (upA 69 (bts s))) 46 W h hms
   rwa [hm] at this)
 have H3:Hid (∀ W,Mw W→Calls Tryz.prog 76 #[.string (stz (upA 46 (upA 69 (bts s)))),.string ⟨#[44]⟩,.string ⟨#[]⟩] W fun e w'=>
  e=.returned (.string (stz (pln (upA 46 (upA 69 (bts s))))))∧Below W.heap.size W w'):=hid (fun W h=>by
   have:=qKD (stz (upA 46 (upA 69 (bts s)))) 44 W h hws
   rwa [hw] at this)
 show Calls _ _ _ w fun e w'=>e=.returned (.agg (ptV (stz (upA 69 (bts s))) ((bts s).any (· == 69)) (stz (dnA 69 (bts s))) (stz (upA 46 (upA 69 (bts s)))) (stz (dnA 46 (upA 69 (bts s)))) ((upA 69 (bts s)).any (· == 46)) (stz (pln (upA 46 (upA 69 (bts s)))))))∧Below w.heap.size w w'
 clear hm hw hms hws hlt
 generalize stz (pln (upA 46 (upA 69 (bts s))))=ba at *
 generalize stz (upA 46 (upA 69 (bts s)))=wh at *
 generalize stz (dnA 46 (upA 69 (bts s)))=fr at *
 generalize (upA 69 (bts s)).any (· == 46)=pt at *
 generalize stz (upA 69 (bts s))=m at *
 generalize stz (dnA 69 (bts s))=ex at *
 generalize (bts s).any (· == 69)=sc at *
 have HX:=hid (CX.new (T:=118) (zs:=#[.string ⟨#[]⟩,.bool false,.string ⟨#[]⟩,.string ⟨#[]⟩,.string ⟨#[]⟩,.bool false,.string ⟨#[]⟩]) (vs:=#[.string ⟨#[]⟩,.bool false,.string ⟨#[]⟩,.string ⟨#[]⟩,.string ⟨#[]⟩,.bool false,.string ⟨#[]⟩]) hM)
 clear hM
 go_enter Tryz.func58,Tryz.ntmps58
 go_upto_region 2 with fail
 generalize (w.alloc (.cells #[.string ⟨#[]⟩,.bool false,.string ⟨#[]⟩,.string ⟨#[]⟩,.string ⟨#[]⟩,.bool false,.string ⟨#[]⟩] 118)).alloc (.cells #[.string ⟨#[]⟩,.bool false,.string ⟨#[]⟩,.string ⟨#[]⟩,.string ⟨#[]⟩,.bool false,.string ⟨#[]⟩] 118)=W at *
 generalize hg:w.heap.size=r at *
 have Hg:=hid hg
 clear hg
 have d0:=HX.out.bh.v 0 rfl
 have df0:=HX.out.bh.fr 0
 have d1:=HX.out.bh.v 1 rfl
 have df1:=HX.out.bh.fr 1
 have d2:=HX.out.bh.v 2 rfl
 have df2:=HX.out.bh.fr 2
 go_upto_region 3 with (go_at_call 75; refine (H1.out _ HX.out.mw).mono ?_; rintro e w' ⟨rfl,n1,rfl⟩)
 have HX:=hid (((((HX.out.drewN n1).set 0 (.string m)).set 2 (.string ex)).set 1 (.bool sc)).to (vs':=#[.string m,.bool sc,.string ex,.string ⟨#[]⟩,.string ⟨#[]⟩,.bool false,.string ⟨#[]⟩]) (by simp))
 clear d0 df0 d1 df1 d2 df2
 generalize (((W.drewN n1).setCell ⟨r+1,0,none⟩ (.string m)).setCell ⟨r+1,2,none⟩ (.string ex)).setCell ⟨r+1,1,none⟩ (.bool sc)=W2 at *
 have d0:=HX.out.bh.v 0 rfl
 have df0:=HX.out.bh.fr 0
 have d3:=HX.out.bh.v 3 rfl
 have df3:=HX.out.bh.fr 3
 have d4:=HX.out.bh.v 4 rfl
 have df4:=HX.out.bh.fr 4
 have d5:=HX.out.bh.v 5 rfl
 have df5:=HX.out.bh.fr 5
 go_upto_region 4 with (go_at_call 75; refine (H2.out _ HX.out.mw).mono ?_; rintro e w' ⟨rfl,n2,rfl⟩)
 have HX:=hid (((((HX.out.drewN n2).set 3 (.string wh)).set 4 (.string fr)).set 5 (.bool pt)).to (vs':=#[.string m,.bool sc,.string ex,.string wh,.string fr,.bool pt,.string ⟨#[]⟩]) (by simp))
 clear d0 df0 d3 df3 d4 df4 d5 df5
 generalize (((W2.drewN n2).setCell ⟨r+1,3,none⟩ (.string wh)).setCell ⟨r+1,4,none⟩ (.string fr)).setCell ⟨r+1,5,none⟩ (.bool pt)=W3 at *
 have d3:=HX.out.bh.v 3 rfl
 have df3:=HX.out.bh.fr 3
 go_upto_region 5 with (go_at_call 76; refine (H3.out _ HX.out.mw).mono ?_; rintro e W4 ⟨rfl,hbx⟩; have HX:=hid (HX.out.below hbx); have d6:=HX.out.bh.v 6 rfl; have df6:=HX.out.bh.fr 6; clear hbx)
 have HX:=hid ((HX.out.set 6 (.string ba)).to (vs':=#[.string m,.bool sc,.string ex,.string wh,.string fr,.bool pt,.string ba]) (by simp))
 clear d6 df6 d3 df3
 generalize W4.setCell ⟨r+1,6,none⟩ (.string ba)=W5 at *
 have d0:=HX.out.bh.v 0 rfl
 have d1:=HX.out.bh.v 1 rfl
 have d2:=HX.out.bh.v 2 rfl
 have d3:=HX.out.bh.v 3 rfl
 have d4:=HX.out.bh.v 4 rfl
 have d5:=HX.out.bh.v 5 rfl
 have d6:=HX.out.bh.v 6 rfl
 have z0:=HX.out.br.v 0 rfl
 have z1:=HX.out.br.v 1 rfl
 have z2:=HX.out.br.v 2 rfl
 have z3:=HX.out.br.v 3 rfl
 have z4:=HX.out.br.v 4 rfl
 have z5:=HX.out.br.v 5 rfl
 have z6:=HX.out.br.v 6 rfl
 have zf0:=HX.out.br.fr 0
 have zf1:=HX.out.br.fr 1
 have zf2:=HX.out.br.fr 2
 have zf3:=HX.out.br.fr 3
 have zf4:=HX.out.br.fr 4
 have zf5:=HX.out.br.fr 5
 have zf6:=HX.out.br.fr 6
 go_wp2
 have HX:=hid ((((((((HX.out.setr 0 (.string m)).setr 1 (.bool sc)).setr 2 (.string ex)).setr 3 (.string wh)).setr 4 (.string fr)).setr 5 (.bool pt)).setr 6 (.string ba)).tor (zs':=ptV m sc ex wh fr pt ba) (by simp [ptV]))
 generalize (((((((W5.setCell ⟨r,0,none⟩ (.string m)).setCell ⟨r,1,none⟩ (.bool sc)).setCell ⟨r,2,none⟩ (.string ex)).setCell ⟨r,3,none⟩ (.string wh)).setCell ⟨r,4,none⟩ (.string fr)).setCell ⟨r,5,none⟩ (.bool pt)).setCell ⟨r,6,none⟩ (.string ba))=WF at *
 have e0:=HX.out.br.v 0 rfl
 have e1:=HX.out.br.v 1 rfl
 have e2:=HX.out.br.v 2 rfl
 have e3:=HX.out.br.v 3 rfl
 have e4:=HX.out.br.v 4 rfl
 have e5:=HX.out.br.v 5 rfl
 have e6:=HX.out.br.v 6 rfl
 exact bodyPost_ret (v:=.agg (ptV m sc ex wh fr pt ba)) (by simp [results,Tryz.results58,go_sem,ptV,e0,e1,e2,e3,e4,e5,e6]) rfl ⟨rfl,Hg.out ▸ HX.out.b⟩
theorem qJH (a b:List Nat) (hb:∀ x ∈ b,x≠44):∀ k,spl (a++44 :: b) k=spl a k++[b.length]:=by
 induction a with
 | nil=>intro k; show spl (44 :: b) k=[k]++_; rw [spl,if_pos rfl,qJ9 hb,Nat.zero_add]; rfl
 | cons c t ih=>
  intro k
  show spl (c :: (t++44 :: b)) k=_
  by_cases hc:c=44
  · subst hc; rw [spl,if_pos rfl,ih,spl,if_pos rfl]; rfl
  · rw [spl,if_neg hc,ih,spl,if_neg hc]
theorem prim_snoc {l:List Nat} (h:1≤l.length) (x:Nat):primZ (l++[x])=x:=by
 unfold primZ
 rw [if_pos (by rw [List.length_append,List.length_singleton]; omega),List.length_append,List.length_singleton,Nat.add_sub_cancel,List.getD,List.getElem?_append_right (Nat.le_refl _),Nat.sub_self]; rfl
theorem sec_snoc {l:List Nat} (h:1≤l.length) (y x:Nat):secZ ((l++[y])++[x])=y:=by
 unfold secZ
 rw [if_pos (by simp only [List.length_append,List.length_singleton]; omega),show ((l++[y])++[x]).length - 2=l.length by simp only [List.length_append,List.length_singleton]; omega,List.append_assoc,List.getD,List.getElem?_append_right (Nat.le_refl _),Nat.sub_self]; rfl
set_option maxHeartbeats 1000000 in
theorem sizes_c (s:ByteArray) (w:World) (hs:s.size < 4294967281):Calls Tryz.prog 87 #[.string s] w fun e w'=>
 e=.returned (.tuple #[.int .i64 ((primZ (spl (bts s) 0):Nat):Int),.int .i64 ((secZ (spl (bts s) 0):Nat):Int)])∧w=w':=by
 have H1:=hid (fun W=>qHY s W hs)
 rcases qKC s 44 with ⟨hl,hn⟩ | ⟨i,hi,hl,hsp,hn⟩
 · rw [hl] at H1
   have HP:=hid (show primZ (spl (bts s) 0)=0∧secZ (spl (bts s) 0)=0 by rw [qJ9 hn]; exact ⟨rfl,rfl⟩);clear hn hl
   go_enter Tryz.func87,Tryz.ntmps87
   go_wp2_with (first
    | (go_at_call 109; refine (H1.out _).mono ?_; rintro e w' ⟨rfl,rfl⟩)
    | fail)
   go_ret2
   rw [HP.out.1,HP.out.2];exact ⟨rfl,rfl⟩
 · rw [hl] at H1
   have hel:(s.extract 0 i).size < 4294967281:=by rw [ByteArray.size_extract]; omega
   have H2:=hid (fun W=>qHY (s.extract 0 i) W hel);have hlen:((bts s).drop (i+1)).length=s.size - i - 1:=by rw [List.length_drop,qA1]; omega
   have hsz:(s.extract 0 i).size=i:=by rw [ByteArray.size_extract]; omega
   have hpos:=qJB ((bts s).take i) 0
   rcases qKC (s.extract 0 i) 44 with ⟨hl2,hn2⟩ | ⟨j,hj,hl2,hsp2,hn2⟩
   · rw [hl2] at H2
     rw [qCT] at hn2;have HP:=hid (show primZ (spl (bts s) 0)=s.size - i - 1∧secZ (spl (bts s) 0)=s.size - i - 1 by
      rw [hsp,qJH _ _ hn,qJ9 hn2,← hlen]; exact ⟨rfl,rfl⟩)
     have hw1:(s.size:Int) - (i:Int) - 1=((s.size - i - 1:Nat):Int):=by omega
     clear hn hn2 hl hl2 hsp hlen hel hpos hsz
     go_enter Tryz.func87,Tryz.ntmps87
     go_upto_region 5 with (go_at_call 109; refine (H1.out _).mono ?_; rintro e w' ⟨rfl,rfl⟩)
     go_wp2_with (go_at_call 109; refine (H2.out _).mono ?_; rintro e w' ⟨rfl,rfl⟩)
     go_ret2
     rw [HP.out.1,HP.out.2];exact ⟨rfl,rfl⟩
   · rw [hl2] at H2
     have hbl:((bts (s.extract 0 i)).drop (j+1)).length=i - j - 1:=by rw [List.length_drop,qA1,hsz]; omega
     have hpos2:=qJB ((bts (s.extract 0 i)).take j) 0;have HP:=hid (show primZ (spl (bts s) 0)=s.size - i - 1∧secZ (spl (bts s) 0)=i - j - 1 by
      rw [qCT] at hsp2 hn2 hbl hpos2;rw [hsp,qJH _ _ hn,hsp2,qJH _ _ hn2,hlen,hbl];exact ⟨prim_snoc (by rw [List.length_append,List.length_singleton]; omega) _,sec_snoc hpos2 _ _⟩)
     have hw1:(s.size:Int) - (i:Int) - 1=((s.size - i - 1:Nat):Int):=by omega
     have hw2:(i:Int) - (j:Int) - 1=((i - j - 1:Nat):Int):=by omega
     clear hn hn2 hl hl2 hsp hsp2 hlen hel hpos hsz hbl hpos2
     go_enter Tryz.func87,Tryz.ntmps87
     go_upto_region 5 with (go_at_call 109; refine (H1.out _).mono ?_; rintro e w' ⟨rfl,rfl⟩)
     go_wp2_with (go_at_call 109; refine (H2.out _).mono ?_; rintro e w' ⟨rfl,rfl⟩)
     go_ret2
     rw [HP.out.1,HP.out.2];exact ⟨rfl,rfl⟩
end Go.Proofs.YtmeaiaecmmglnaaGreatDoor
