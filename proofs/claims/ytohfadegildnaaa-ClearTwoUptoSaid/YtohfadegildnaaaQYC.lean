import Derived.Lib.AppendStr
import Derived.Test.YtohfadegildnaaaQShelf
import Derived.Test.YtohfadegildnaaaQSB
set_option linter.all false
set_option maxRecDepth 100000
namespace Go.Proofs.Ytohfadegildnaaa
open Go.RowKit
open Lib (hid)
theorem qHW (s:ByteArray):Lib.strCells s=u8s (bts s):=by
 unfold Lib.strCells u8s bts
 rw [List.map_map]; rfl
theorem qH2 {c:Nat} (hc:isC c=true):Lib.runeCells (c:Int)=u8s (encN c):=by
 have h1:=qD2.1 hc
 unfold Lib.runeCells
 rcases qAU c with ⟨h,e⟩ | ⟨h,h',e⟩ | ⟨h,h',e⟩ | ⟨h,e⟩
 · rw [e,Lib.encodeRuneZ_one (by omega) (by omega)]; rfl
 · rw [e,Lib.encodeRuneZ_two (by omega) (by omega)]; simp [u8s]
 · rw [e,Lib.encodeRuneZ_three (by omega)]; simp [u8s]
 · rw [e,Lib.encodeRuneZ_four (by omega) (by omega)]; simp [u8s]
theorem qFZ {W w0:World} {ops:Array Oper} {rest:List Oper} {o:Oper} {a:Act} {Q:Exit→Act→World→Prop} (hgd:o.guard=none) (s x:Operand)
 (ho:o.op=.call { callee:=.builtin .append,args:=#[s,x],argTypes:=#[67,9] })
 (base:Nat) (v:Value) (l:List Nat) (hs:a.eval s=v) (hown:W.ownsRow base 5 1 v l.length (u8s l)) (t:ByteArray)
 (hx:a.eval x=.string t) (hk:l.length≤1000000) (ht:t.size≤1000000) (hb:Below base w0 W) (hbase:base≤W.heap.size)
 (h:∀ v' w',Hid (w'.ownsRow base 5 1 v' (l.length+t.size) (u8s (l++bts t)))→Hid (Below base w0 w')→wpList Try.prog ops Q rest (a.put o.dst v') w') :
 wpList Try.prog ops Q (o :: rest) a W:=by
 obtain ⟨i0,hi,hz0,hz1,hz2⟩:=info_parts u8_info
 refine Lib.wpList_append_own_string W hgd s x 67 9 ho base 5 i0 Try.underlying67 Try.underlying9 hi hz0 hz1 hz2 v l.length _ hs hown t hx (by unfold maxLen; omega) (by omega) hbase ?_
 intro v' w' h1 h2 _
 refine h v' w' (hid ?_) (hid (hb.grown h2 hbase fun k hk=>(hown.lt k hk).1))
 rw [qHW] at h1
 rw [show u8s (l++bts t)=u8s l++u8s (bts t) by simp [u8s]]
 exact h1
set_option maxHeartbeats 2000000 in
theorem wStr_c (b:Nat) (p v:Value) (l:List Nat) (t:ByteArray) (w:World) (hp:p=.pointer none∨p=.pointer (some ⟨b,0,none⟩)) (h:Bld w b p v l) (ht:t.size≤1000000) (hl:l.length≤1000000) :
 Calls Try.prog 40 #[.pointer (some ⟨b,0,none⟩),.string t] w fun e w'=>e=.returned (.tuple #[.int .i64 (t.size:Int),.nilIface])∧∃ v',Hid (Bld w' b (.pointer (some ⟨b,0,none⟩)) v' (l++bts t))∧Hid (Below b w w'):=by
 have HC:=hid (qFW b p v l w hp h)
 obtain ⟨A,c,rfl⟩:=qAN h.own
 clear h hp
 go_enter Try.func40,Try.ntmps40
 go_upto_region 2 with (first
  | (go_at_call 51; refine HC.out.mono ?_; rintro e w1 ⟨rfl,h1,hb1⟩; have d1:=h1.out.bx.c 1)
  | fail)
 go_wp2_with (at_builtin; go_must (refine qFZ rfl (.tmp 12) (.tmp 13) rfl (b+1) (.slice A l.length c) l rfl h1.out.own t rfl hl ht (Below.refl _ _) h1.out.bx.lt ?_))
 intro v' w2 ho2 hb2
 obtain ⟨A2,c2,rfl⟩:=qAN ho2.out
 have hx2:=h1.out.bx.below hb2.out (Nat.lt_succ_self b)
 have e1:=hx2.c 1
 have e2:=hx2.fr 1
 have HN:Hid (Bld (w2.setCell ⟨b,1,none⟩ (.slice A2 (l.length+t.size) c2)) b (.pointer (some ⟨b,0,none⟩)) (.slice A2 (l.length+t.size) c2) (l++bts t)):=hid ⟨heap_setCell_same w2 b 1 _ _ _ hx2,by
  rw [List.length_append,qA0];exact qB0 ho2.out (p:=⟨b,1,none⟩) (Nat.lt_succ_self b) _⟩
 have HB:=hid ((hb1.out.trans (hb2.out.mono (Nat.le_succ b))).setCell (p:=⟨b,1,none⟩) (Nat.le_refl _) (.slice A2 (l.length+t.size) c2))
 clear d1 hx2 ho2 hb1 hb2 h1
 go_wp2
 go_ret2
 exact ⟨rfl,_,HN,HB⟩
set_option maxHeartbeats 2000000 in
theorem wRune_c (b : Nat) (p v : Value) (l : List Nat) (x : Nat) (w : World) (hp : p = .pointer none ∨ p = .pointer (some ⟨b, 0, none⟩)) (h : Bld w b p v l) (hx : isC x = true) (hl : l.length ≤ 1000000) :
    Calls Try.prog 39 #[.pointer (some ⟨b,0,none⟩),.int .i32 (x:Int)] w fun e w'=>e=.returned (.tuple #[.int .i64 (((encN x).length:Nat):Int),.nilIface])∧∃ v',Hid (Bld w' b (.pointer (some ⟨b,0,none⟩)) v' (l++encN x))∧Hid (Below b w w'):=by
  have HC:=hid (qFW b p v l w hp h);have HA:=hid (fun (w1:World) (h1:Bld w1 b (.pointer (some ⟨b,0,none⟩)) v l)=>(Try.utf8_AppendRune_plain (b+1) v l.length (u8s l) (x:Int) (by omega) (by have:=qD3 hx; omega) w1 h1.own (by omega) h1.bx.lt));rw [qH2 hx,qEH] at HA;obtain ⟨A,c,rfl⟩:=qAN h.own;clear h hp hx
  go_enter Try.func39,Try.ntmps39
  go_upto_region 4 with (first
    | (go_at_call 51; refine HC.out.mono ?_; rintro e w1 ⟨rfl,h1,hb1⟩; have d1:=h1.out.bx.c 1)
    | (go_at_call 52; refine (HA.out w1 h1.out).mono ?_; rintro e w2 ⟨v2,rfl,ho2,o2,hg2⟩; obtain ⟨A2,c2,rfl⟩:=qAN ho2; have hb2:=hid (((Below.refl (b+1) w1).alloc h1.out.bx.lt o2).grown hg2 (by rw [World.size_alloc]; exact Nat.le_succ_of_le h1.out.bx.lt) fun k hk=>(h1.out.own.lt k hk).1); have hx2:=h1.out.bx.below hb2.out (Nat.lt_succ_self b); have e1:=hx2.c 1; have e2:=hx2.fr 1)
    | fail)
  have HN:Hid (Bld (w2.setCell ⟨b,1,none⟩ (.slice A2 (l.length+(encN x).length) c2)) b (.pointer (some ⟨b,0,none⟩)) (.slice A2 (l.length+(encN x).length) c2) (l++encN x)):=hid ⟨heap_setCell_same w2 b 1 _ _ _ hx2,by
    rw [List.length_append,show u8s (l++encN x)=u8s l++u8s (encN x) by simp [u8s]];exact qB0 ho2 (p:=⟨b,1,none⟩) (Nat.lt_succ_self b) _⟩
  have HB:=hid ((hb1.out.trans (hb2.out.mono (Nat.le_succ b))).setCell (p:=⟨b,1,none⟩) (Nat.le_refl _) (.slice A2 (l.length+(encN x).length) c2));generalize w2.setCell ⟨b,1,none⟩ (.slice A2 (l.length+(encN x).length) c2)=W3 at *;clear d1 e1 e2 hx2 ho2 hb1 hb2 h1 hg2;have d1:=HN.out.bx.c 1;have hle:=qGD x
  go_wp2
  go_ret2
  refine ⟨?_,_,HN,HB⟩
  first
    | (show Ending.returned (.tuple #[.int .i64 (((l.length : Nat) : Int) + (((encN x).length : Nat) : Int) - ((l.length : Nat) : Int)), .nilIface]) = _
       rw [show ((l.length:Nat):Int)+(((encN x).length:Nat):Int) - ((l.length:Nat):Int)=(((encN x).length:Nat):Int) by omega])
    | (show Ending.returned (.tuple #[.int .i64 (((l.length + (encN x).length : Nat) : Int) - ((l.length : Nat) : Int)), .nilIface]) = _
       rw [show ((l.length+(encN x).length:Nat):Int) - ((l.length:Nat):Int)=(((encN x).length:Nat):Int) by omega])
theorem bStr_c (b:Nat) (p v:Value) (l:List Nat) (w:World) (hp:p=.pointer none∨p=.pointer (some ⟨b,0,none⟩)) (h:Bld w b p v l) (hlt:∀ y ∈ l,y < 256) :
 Calls Try.prog 41 #[.pointer (some ⟨b,0,none⟩)] w fun e w'=>e=.returned (.string (stz l))∧Below b w w':=by
 have hu:u8s l=Lib.byteCells (l.map UInt8.ofNat):=by
  unfold u8s Lib.byteCells;rw [List.map_map];refine List.map_congr_left fun y hy=>?_
  have:=hlt y hy;simp only [Function.comp];rw [show (UInt8.ofNat y).toNat=y by simp; omega]
 have hone:Lib.BuilderAt 85 5 b b p (Lib.byteCells (l.map UInt8.ofNat)) w:=by
  refine ⟨Nat.le_refl _,v,h.bx,?_,?_⟩
  · rw [← hu,qEH]
    exact qEG h.own (Nat.le_succ _)
  · intro e
    have:=(h.own.lt _ e).1;omega
 have hIB:Lib.IsBuilder 85 5 b b (Lib.byteCells (l.map UInt8.ofNat)) w:=by
  rcases hp with rfl | rfl
  · exact .inl hone
  · exact .inr hone
 exact Try.Builder_String_any b b _ w hIB (Nat.le_of_lt h.bx.lt)
end Go.Proofs.Ytohfadegildnaaa
set_option maxRecDepth 100000
namespace Go.Proofs.Ytohfadegildnaaa
open Go.RowKit
def txV (l:List ByteArray):List Value:=l.map Value.string
theorem txV_length (l:List ByteArray):(txV l).length=l.length:=by simp [txV]
def OwTx (w:World) (base:Nat) (v:Value) (ts:List ByteArray):Prop:=w.ownsRow base 9 1 v ts.length (txV ts)
def Tls (w:World) (A:Option Addr) (n:Nat) (ts:List ByteArray):Prop:=qAZ w w.heap.size 1 A n (txV ts)∧n≤36000000000000
theorem Tls.len {w:World} {A:Option Addr} {n:Nat} {ts:List ByteArray} (h:Tls w A n ts):ts.length=n:=by have:=h.1.1; rw [txV_length] at this; omega
theorem Tls.below {w w':World} {A:Option Addr} {n:Nat} {ts:List ByteArray} (h:Tls w A n ts) (hb:Below w.heap.size w w'):Tls w' A n ts:=⟨(h.1.below hb).more hb.size,h.2⟩
theorem Tls.at_ {w:World} {A:Option Addr} {n k:Nat} {ts:List ByteArray} (h:Tls w A n ts) (hk:k < n) (hl:k < ts.length):∃ ad,A=some ad∧w.cell? (ad.add k)=some (.string ts[k]):=by
 obtain ⟨ad,rfl,_,hc⟩:=h.1.2 (by omega)
 refine ⟨ad,rfl,hc k _ ?_⟩
 rw [txV,List.getElem?_map,List.getElem?_eq_getElem hl]; rfl
theorem Tls.of_own {w:World} {base:Nat} {A:Option Addr} {n c:Nat} {ts:List ByteArray} (h:OwTx w base (.slice A n c) ts) (hn:ts.length≤36000000000000):Tls w A n ts:=by
 obtain ⟨A',c',e⟩:=qAN h
 cases e
 exact ⟨qAZ.of_own h,hn⟩
end Go.Proofs.Ytohfadegildnaaa
