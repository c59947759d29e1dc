/-
  Of the proof of logsUpto_card.
-/
import Derived.Test.YthbdpfccfcceiaaGreatDoorDC2x
namespace Go.Proofs.YthbdpfccfcceiaaGreatDoor
section
open Go.RowKit
structure S8 where
 kind:Int
 e:Int
 a:Int
 b:Int
 s:ByteArray
 t:ByteArray
 vl:Value
 vm:Value
def S8.cells (x:S8):List Value:=[.int .i64 x.kind,.int .i64 x.e,.int .i64 x.a,.int .i64 x.b,.string x.s,.string x.t,x.vl,x.vm]
structure S8.ok (x:S8):Prop where
 e:-9223372036854775808≤x.e∧x.e≤9223372036854775807
 a:-9223372036854775808≤x.a∧x.a≤9223372036854775807
 b:-9223372036854775808≤x.b∧x.b≤9223372036854775807
 s:x.s.size≤maxLen
 t:x.t.size≤maxLen
section
variable {own:Nat→Lab}{w:World}{p nt:Nat}{ds:List (Nat × Nat)}{vL vP vK:Value}{bk:BO}
variable {R:Ending→World→Prop}
theorem znp (h:Inv own w p ds vL vP vK bk nt)(h0:0<ds.length)(hnt:nt<1000000)(kind e a b:Int)(hk:10≤kind∧kind≤14)(he:-9223372036854775808≤e∧e≤9223372036854775807)(ha:-9223372036854775808≤a∧a≤9223372036854775807)(st tt:ByteArray)(hst:st.size≤maxLen)(vl vm:Value)
  (hK:∀w' own' vP' vK' bk',Kp (λb=>own b≠zt) w w'→(∀b,b<w.heap.size→own' b=own b)→Inv own' w' p ds vL vP' vK' bk' (nt+1)→R (.returned (.bool true)) w') :
  Calls Tryz.prog 31 #[.pointer (some ⟨p,0,none⟩),.agg #[.int .i64 kind,.int .i64 e,.int .i64 a,.int .i64 b,.string st,.string tt,vl,vm]] w R:=by
 have C:∀w2 (i:Nat) (hi:i<ds.length),Kp (λ_=>False) w w2→Calls Tryz.prog 62 #[.pointer (some ⟨p,0,none⟩),.agg #[.pointer (some ⟨(ds[i]).1,0,none⟩),.pointer (some ⟨(ds[i]).2,0,none⟩)],.agg #[.int .i64 kind,.int .i64 e,.int .i64 a,.int .i64 b,.string st,.string tt,vl,vm]] w2 (λr w'=>r = .returned (.bool true)∧R (.returned (.bool true)) w'):=λw2 i hi k=>
  zc3 (h.same k (λ_ _=>rfl)) hi hnt kind e a b hk ha st tt hst vl vm (λw' own' vP' vK' bk' k' a' I=>⟨rfl,hK w' own' vP' vK' bk' ((k.mono (λ_ _ h=>h.elim)).trans k' (λ_ _ h=>h)) (λb hb=>a' b (Nat.lt_of_lt_of_le hb k.size)) I⟩)
 exact zf2 h h0 hnt kind e a b (by omega) he st tt vl vm C
theorem zxr (h:Inv own w p ds vL vP vK bk nt)(hnt:nt<1000000)(kind e a b:Int)(s t:ByteArray)(vl vm:Value)(hx:(⟨kind,e,a,b,s,t,vl,vm⟩:S8).ok)(h9:kind≤19)(hl:kind=18→∃fs,FIn w vl fs (λb=>b<w.heap.size))(h0:kind=1∨0<ds.length)
  (hK:∀w' own' ds' vL' vP' vK' bk',Kp (λb=>own b≠zt) w w'→(∀b,b<w.heap.size→own' b=own b)→z4i kind b ds ds'→Inv own' w' p ds' vL' vP' vK' bk' (nt+1)→0<ds'.length→R (.returned (.bool true)) w') :
  Calls Tryz.prog 31 #[.pointer (some ⟨p,0,none⟩),.agg #[.int .i64 kind,.int .i64 e,.int .i64 a,.int .i64 b,.string s,.string t,vl,vm]] w R:=by
 obtain⟨he,ha,hb,hs,ht⟩:=hx
 dsimp only at he ha hb hs ht
 by_cases h1:kind=1
 ·subst h1
  exact zj0 h hnt e a b s t vl vm (λw' own' vL' q k a I=>hK w' own' _ vL' vP vK bk k a ⟨λ_=>by simp,λh=>by omega,λh=>absurd rfl h,by simp⟩ I (by simp))
 ·replace h0:0<ds.length:=h0.resolve_left h1
  by_cases h18:kind=18
  ·subst h18
   obtain⟨fs,hfs⟩:=hl rfl
   exact zyr h hnt e a b s t vl vm fs hfs (λw' own' ds' vL' k a hd I=>hK w' own' ds' vL' vP vK bk k a hd I (by have:=hd.2.2.2;omega))
  by_cases h15:15≤kind
  ·exact zmp h h0 hnt kind e a b ⟨h15,h9,h18⟩ he ha hb s t vl vm (λw' own' ds' vL' bk' k a hd _ I=>hK w' own' ds' vL' vP vK bk' k a hd I (by have:=hd.2.2.2;omega))
  have h9:kind≤14:=by omega
  have hD:z4i kind b ds ds:=⟨λh=>absurd h h1,λh=>by omega,λ_ _ _=>rfl,Nat.le_refl _⟩
  have K:∀w' own' vP' vK' bk',Kp (λb=>own b≠zt) w w'→(∀b,b<w.heap.size→own' b=own b)→Inv own' w' p ds vL vP' vK' bk' (nt+1)→R (.returned (.bool true)) w':=λw' own' vP' vK' bk' k a I=>hK w' own' ds vL vP' vK' bk' k a hD I h0
  by_cases h2:kind≤0
  ·exact z1x h h0 hnt kind e a b h2 he ha s t hs ht vl vm K
  ·by_cases h10:10≤kind
   ·exact znp h h0 hnt kind e a b ⟨h10,h9⟩ he ha s t hs vl vm K
   exact zzr h h0 hnt kind e a b ⟨by omega,by omega⟩ he ha s t hs ht vl vm K
theorem zgz (h:Inv own w p ds vL vP vK bk nt)(hnt:nt<1000000)(hK:∀w',Kp (λ_=>False) w w'→Inv own w' p ds vL vP vK bk nt→R (.returned (.bool true)) w') :
  Calls Tryz.prog 32 #[.pointer (some ⟨p,3,none⟩)] w R:=
 zjz h.book h.more (by have:=h.nbk;omega) (by have:=h.nbk;omega) (by have:=h.nbk;omega) (λw' k=>hK w' k (h.same k (λ_ _=>rfl)))
structure Scr (w:World)(g off n:Nat)(f:Nat→S8):Prop where
 cell:∀i,i<n→∀k v,(f i).cells[k]?=some v→w.cell? ⟨g,off+i*8+k,none⟩=some v
 lt:g<w.heap.size
 ok:∀i,i<n→(f i).ok
theorem Scr.kept {w':World}{g off n:Nat}{f:Nat→S8}{S:Nat→Prop}(h:Scr w g off n f)(k:Kp S w w')(hn:¬S g):Scr w' g off n f:=
 ⟨λi hi j v hv=>(k.cell (a:=⟨g,off+i*8+j,none⟩) h.lt hn).trans (h.cell i hi j v hv),Nat.lt_of_lt_of_le h.lt k.size,h.ok⟩
theorem Scr.at {g off n:Nat}{f:Nat→S8}(h:Scr w g off n f)(i:Nat)(hi:i<n):∃kind e a b s t vl vm,f i=⟨kind,e,a,b,s,t,vl,vm⟩∧(⟨kind,e,a,b,s,t,vl,vm⟩:S8).ok∧w.cell? ⟨g,off+i*8,none⟩=some (.int .i64 kind)∧w.cell? ⟨g,off+i*8+1,none⟩=some (.int .i64 e)∧w.cell? ⟨g,off+i*8+2,none⟩=some (.int .i64 a)∧w.cell? ⟨g,off+i*8+3,none⟩=some (.int .i64 b)∧
  w.cell? ⟨g,off+i*8+4,none⟩=some (.string s)∧w.cell? ⟨g,off+i*8+5,none⟩=some (.string t)∧w.cell? ⟨g,off+i*8+6,none⟩=some vl∧w.cell? ⟨g,off+i*8+7,none⟩=some vm:=
 ⟨_,_,_,_,_,_,_,_,rfl,h.ok i hi,h.cell i hi 0 _ rfl,h.cell i hi 1 _ rfl,h.cell i hi 2 _ rfl,h.cell i hi 3 _ rfl,h.cell i hi 4 _ rfl,h.cell i hi 5 _ rfl,h.cell i hi 6 _ rfl,h.cell i hi 7 _ rfl⟩
def zbn:List S8:=[⟨1,0,0,0,⟨#[]⟩,⟨#[]⟩,.slice none 0 0,.slice none 0 0⟩,
 ⟨2,0,0,0,⟨#[]⟩,⟨#[]⟩,.slice none 0 0,.slice none 0 0⟩,
 ⟨5,0,1,0,⟨#[97]⟩,⟨#[120]⟩,.slice none 0 0,.slice none 0 0⟩,
 ⟨2,0,0,0,⟨#[]⟩,⟨#[]⟩,.slice none 0 0,.slice none 0 0⟩,
 ⟨7,0,1,0,⟨#[]⟩,⟨#[]⟩,.slice none 0 0,.slice none 0 0⟩,
 ⟨5,0,2,0,⟨#[97]⟩,⟨#[121]⟩,.slice none 0 0,.slice none 0 0⟩,
 ⟨7,0,2,0,⟨#[]⟩,⟨#[]⟩,.slice none 0 0,.slice none 0 0⟩,
 ⟨10,0,1,0,⟨#[97]⟩,⟨#[]⟩,.slice none 0 0,.slice none 0 0⟩,
 ⟨17,0,5,0,⟨#[]⟩,⟨#[]⟩,.slice none 0 0,.slice none 0 0⟩,
 ⟨19,0,1000,1,⟨#[]⟩,⟨#[]⟩,.slice none 0 0,.slice none 0 0⟩,
 ⟨20,0,0,0,⟨#[]⟩,⟨#[]⟩,.slice none 0 0,.slice none 0 0⟩,
 ⟨21,0,1,9,⟨#[]⟩,⟨#[]⟩,.slice none 0 0,.slice none 0 0⟩,
 ⟨23,0,1,1,⟨#[]⟩,⟨#[]⟩,.slice none 0 0,.slice none 0 0⟩,
 ⟨25,0,1,0,⟨#[97]⟩,⟨#[]⟩,.slice none 0 0,.slice none 0 0⟩]
def zpg (i:Nat):S8:=zbn.getD i ⟨0,0,0,0,⟨#[]⟩,⟨#[]⟩,.slice none 0 0,.slice none 0 0⟩
theorem z0x (w:World):Scr (w.alloc (.cells (zbn.flatMap S8.cells).toArray 71)) w.heap.size 0 14 zpg:=by
 have hb:=heap_alloc_new w (.cells (zbn.flatMap S8.cells).toArray 71)
 refine⟨λi hi k v hv=>?_,zh hb,λi hi=>?_⟩
 ·rw[zg hb]
  have hk:k<8:=by
   have:=(List.getElem?_eq_some_iff.1 hv).1
   simpa [S8.cells] using this
  have key:∀i,i<14→∀k,k<8→(zbn.flatMap S8.cells).toArray[0+i*8+k]?=(zpg i).cells[k]?:=by
   intro i hi k hk
   rcases (by omega:i=0∨i=1∨i=2∨i=3∨i=4∨i=5∨i=6∨i=7∨i=8∨i=9∨i=10∨i=11∨i=12∨i=13) with rfl|rfl|rfl|rfl|rfl|rfl|rfl|rfl|rfl|rfl|rfl|rfl|rfl|rfl <;>
   (rcases (by omega:k=0∨k=1∨k=2∨k=3∨k=4∨k=5∨k=6∨k=7) with rfl|rfl|rfl|rfl|rfl|rfl|rfl|rfl)<;>rfl
  rw[key i hi k hk]
  exact hv
 ·rcases (by omega:i=0∨i=1∨i=2∨i=3∨i=4∨i=5∨i=6∨i=7∨i=8∨i=9∨i=10∨i=11∨i=12∨i=13) with rfl|rfl|rfl|rfl|rfl|rfl|rfl|rfl|rfl|rfl|rfl|rfl|rfl|rfl<;>exact⟨by decide,by decide,by decide,by decide,by decide⟩
def zti (last:Int)(i:Nat):Nat:=if i=0 then 0 else if 19≤last∧10≤i then 2 else 1
theorem zbw {last:Int}{i:Nat}(hi:i<14){ds ds':List (Nat × Nat)}(hd:ds.length=zti last i)(hk:(zpg i).kind≤last)(hl:last≤19)(h:z4i (zpg i).kind (zpg i).b ds ds'):ds'.length=zti last (i+1):=by
 obtain⟨h1,h2,h3,_⟩:=h
 unfold zti at hd ⊢
 rcases (by omega:i=0∨i=1∨i=2∨i=3∨i=4∨i=5∨i=6∨i=7∨i=8∨i=9∨i=10∨i=11∨i=12∨i=13) with rfl|rfl|rfl|rfl|rfl|rfl|rfl|rfl|rfl|rfl|rfl|rfl|rfl|rfl
 ·have:=h1 rfl
  rw[if_pos rfl]at hd
  rw[if_neg (by omega),if_neg (by omega)]
  omega
 iterate 8
  ·have:=h3 (by decide) (by decide) (by decide)
   rw[if_neg (by omega),if_neg (by omega)]at hd ⊢
   omega
 ·have:=h2 rfl (by decide)
  have hk:(19:Int)≤last:=hk
  rw[if_neg (by omega),if_neg (by omega)]at hd
  rw[if_neg (by omega),if_pos ⟨hk,by omega⟩]
  omega
 ·have hk:(20:Int)≤last:=hk
  omega
 ·have hk:(21:Int)≤last:=hk
  omega
 ·have hk:(23:Int)≤last:=hk
  omega
 ·have hk:(25:Int)≤last:=hk
  omega
theorem zaw {last:Int}{i:Nat}(hi:i<14)(hk:¬(zpg i).kind≤last)(hl:9≤last):zti last (i+1)=zti last i:=by
 unfold zti
 rcases (by omega:i=0∨i=1∨i=2∨i=3∨i=4∨i=5∨i=6∨i=7∨i=8∨i=9∨i=10∨i=11∨i=12∨i=13) with rfl|rfl|rfl|rfl|rfl|rfl|rfl|rfl|rfl|rfl|rfl|rfl|rfl|rfl
 ·have hk:¬(1:Int)≤last:=hk
  omega
 iterate 8 (rw[if_neg (by omega),if_neg (by omega),if_neg (by omega),if_neg (by omega)])
 ·have hk:¬(19:Int)≤last:=hk
  rw[if_neg (by omega),if_neg (by omega),if_neg (by omega),if_neg (by omega)]
 iterate 4
  by_cases q:19≤last
  ·rw[if_neg (by omega),if_pos (by omega),if_neg (by omega),if_pos (by omega)]
  ·rw[if_neg (by omega),if_neg (by omega),if_neg (by omega),if_neg (by omega)]
theorem zpy {i:Nat}(hi:i<14):(zpg i).vl = .slice none 0 0:=by
 rcases (by omega:i=0∨i=1∨i=2∨i=3∨i=4∨i=5∨i=6∨i=7∨i=8∨i=9∨i=10∨i=11∨i=12∨i=13) with rfl|rfl|rfl|rfl|rfl|rfl|rfl|rfl|rfl|rfl|rfl|rfl|rfl|rfl<;>rfl
set_option maxRecDepth 20000 in
set_option maxHeartbeats 2000000 in
theorem z9v (last:Int)(hlast:9≤last∧last≤19)(h:Inv own w p [] vL vP vK bk nt)(hnt:nt<900000)
  (hK:∀w' own' ds' vL' vP' vK' bk',Kp (λb=>own b≠zt) w w'→(∀b,b<w.heap.size→own' b=own b)→Inv own' w' p ds' vL' vP' vK' bk' (nt+14)→0<ds'.length→R (.returned (.bool true)) w') :
  Calls Tryz.prog 30 #[.pointer (some ⟨p,0,none⟩),.int .i64 last] w R:=by
 have H:=ze h
 have HK:=ze hK
 have HNT:=ze hnt
 clear h hK hnt
 go_enter Tryz.func30,Tryz.ntmps30
 go_wp2
 go_loopw [6] (λv6 wr=>∃i:Nat,i≤14∧v6 = .int .i64 i∧Scr wr w.heap.size 0 14 zpg∧∃own' ds vL vP vK bk,Inv own' wr p ds vL vP vK bk (nt+i)∧ds.length=zti last i∧Kp (λb=>own b≠zt) w wr∧(∀b,b<w.heap.size→own' b=own b)∧own' w.heap.size=zt) (λv6 _=>14-(intOf v6).toNat)
 case atStart=>
  refine⟨0,Nat.zero_le _,rfl,z0x w,zmc own w.heap.size,[],vL,vP,vK,bk,?_,rfl,Kp.alloc _ _ _,λb hb=>zrb hb,zef (by omega)⟩
  exact H.out.same (Kp.alloc _ _ _) (λb hb=>zrb hb)
 case round=>
  obtain⟨i,hile,rfl,hscr,own',ds,vL,vP,vK,bk,hI,hds,hkp,hag,h9⟩:=hrel
  by_cases hin:i<14
  ·have hin':(i:Int)<14:=by omega
   obtain⟨kind,e,a,b,s,t,vl,vm,hf,hok,q0,q1,q2,q3,q4,q5,q6,q7⟩:=hscr.at i hin
   simp only[Nat.zero_add]at q0 q1 q2 q3 q4 q5 q6 q7
   have HSC:=ze hscr
   have HKP:=ze hkp
   have HAG:=ze hag
   have H9:=ze h9
   have HLT:Hid (w.heap.size<wr.heap.size):=hscr.lt
   have HI1:=ze hI
   have HOK:=ze hok
   by_cases hk:kind≤last
   ·have H0:Hid (kind=1∨0<ds.length):=by
     by_cases hi0:0<i
     ·right
      rw[hds]
      unfold zti
      rw[if_neg (by omega)]
      split<;>omega
     ·have:i=0:=by omega
      subst this
      left
      have:=congrArg S8.kind hf
      exact this.symm
    have HDS:Hid (∀ds2,z4i kind b ds ds2→ds2.length=zti last (i+1)):=λds2 hd=>by
     have e1:(zpg i).kind=kind:=congrArg S8.kind hf
     have e2:(zpg i).b=b:=congrArg S8.b hf
     exact zbw hin hds (by rw[e1];exact hk) hlast.2 (by rw[e1,e2];exact hd)
    have HVL:Hid (kind=18→∃fs,FIn wr vl fs (λb=>b<wr.heap.size)):=λ_=>by
     have e3:(zpg i).vl=vl:=congrArg S8.vl hf
     rw[← e3,zpy hin]
     exact⟨[],none,0,rfl,by simp,λh=>absurd rfl h⟩
    have HK19:=ze (show kind≤19 by omega)
    clear hscr hI hds hkp hag h9 hin hile hok hf
    go_wp2_with (first
     |(go_at_call 31;refine zxr HI1.out ?_ kind e a b s t vl vm HOK.out HK19.out HVL.out H0.out (λw2 own2 ds2 vL2 vP2 vK2 bk2 k2 a2 hD2 I2 hd2=>?_);(have:=HNT.out;omega))
     |fail)
    go_roundw
    case rel=>
     refine⟨i+1,by omega,by go_num,HSC.out.kept k2 (λh=>h H9.out),own2,ds2,vL2,vP2,vK2,bk2,I2,HDS.out _ hD2,HKP.out.trans k2 (λb hb e=>by rw[HAG.out b hb]at e;exact e),λb hb=>(a2 b (Nat.lt_of_lt_of_le hb HKP.out.size)).trans (HAG.out b hb),(a2 _ HLT.out).trans H9.out⟩
    case measure=>simp[intOf];omega
   ·have hk':¬kind≤last:=hk
    have HD:Hid (ds.length=zti last (i+1)):=by
     show _=_
     have e1:(zpg i).kind=kind:=congrArg S8.kind hf
     rw[zaw hin (by rw[e1];exact hk') hlast.1]
     exact hds
    clear hscr hI hds hkp hag h9 hin hile hok hf
    go_wp2
    go_roundw
    case rel=>exact⟨i+1,by omega,by go_num,HSC.out,own',ds,vL,vP,vK,bk,HI1.out.mono (by omega),HD.out,HKP.out,HAG.out,H9.out⟩
    case measure=>simp[intOf];omega
  ·have hie:i=14:=by omega
   subst hie
   have hpos:0<ds.length:=by
    rw[hds]
    unfold zti
    rw[if_neg (by omega)]
    split<;>omega
   have HF:=ze (HK.out wr own' ds vL vP vK bk hkp hag hI hpos)
   obtain⟨g,cap,hvL,_,_,_⟩:=zsg hI.rowL hpos
   have c0:wr.cell? ⟨p,0,none⟩=some vL:=zg hI.book.world 0
   rw[hvL]at c0
   by_cases h19:19≤last
   ·obtain rfl:last=19:=by omega
    have e2:ds.length=2:=hds
    rw[e2]at c0
    clear hscr hI hds hkp hag h9 hin hile hpos e2
    go_wp2
    exact HF.out
   ·have h19':last<19:=by omega
    have d19:decide (last<19)=true:=by simpa using h19'
    have d26:decide (last<26)=true:=by simp;omega
    clear hscr hI hds hkp hag h9 hin hile hpos c0 hvL
    go_wp2
    exact HF.out
end
end
section
open Go.RowKit
def zgh (p b:Nat):Lab:=if b=p then ⟨0,0,0,eb⟩ else zt
theorem zzw (w:World)(hT:Tab w):Inv (zgh w.heap.size) (w.alloc (.cells (zcf (.slice none 0 0) (.slice none 0 0) (.slice none 0 0) BO.none) 68)) w.heap.size [] (.slice none 0 0) (.slice none 0 0) (.slice none 0 0) BO.none 0:=by
 refine⟨⟨by simp[zgh],heap_alloc_new w _,World.ownsRow_nil _ _ _ _,?_,World.ownsRow_nil _ _ _ _,?_,⟨0,rfl⟩,?_,?_,?_⟩,World.ownsRow_nil _ _ _ _,?_,?_,Nat.le_refl _,⟨Nat.le_refl _,Nat.le_refl _,Nat.le_refl _⟩,hT.kept (Kp.alloc _ _ _),⟨by have:=hT.lt.1;have h:¬0=w.heap.size:=(by omega);simp[zgh,h],by have:=hT.lt.2;have h:¬1=w.heap.size:=(by omega);simp[zgh,h]⟩,zg1 _ _⟩
 ·intro b e;cases e
 ·intro b e;cases e
 ·intro q hq;cases hq
 ·intro q hq;cases hq
 ·intro q hq;cases hq
 ·intro b e;cases e
 ·intro i hi;exact absurd hi (by simp)
structure zfu (w:World)(v:Value)(n:Nat)(f:Nat→S8):Prop where
 form:∃av cap,v = .slice av n cap∧(0<n→∃g off,av=some ⟨g,off,none⟩∧Scr w g off n f)
 rows:∀i,i<n→∃fs,FIn w (f i).vl fs (λb=>b<w.heap.size)
section
variable {w:World}{R:Ending→World→Prop}
def zsd (w wr:World)(ds:List (Nat × Nat))(vL:Value)(nt:Nat):Prop:=
 ∃own vP vK bk,Inv own wr w.heap.size ds vL vP vK bk nt∧0<ds.length∧Kp (λ_=>False) w wr∧∀b,b<w.heap.size→own b=zt
theorem zsd.next {wr w2:World}{ds:List (Nat × Nat)}{vL:Value}{nt:Nat}{own own2:Nat→Lab}{vP vK:Value}{bk:BO}(hk:Kp (λ_=>False) w wr)(ho:∀b,b<w.heap.size→own b=zt)
  (k2:Kp (λb=>own b≠zt) wr w2) (a2:∀b,b<wr.heap.size→own2 b=own b) (I:Inv own2 w2 w.heap.size ds vL vP vK bk nt) (hd:0<ds.length):zsd w w2 ds vL nt:=
 ⟨own2,vP,vK,bk,I,hd,hk.trans k2 (λb hb e=>e (ho b hb)),λb hb=>(a2 b (Nat.lt_of_lt_of_le hb hk.size)).trans (ho b hb)⟩
theorem zsd.mono {wr:World}{ds:List (Nat × Nat)}{vL:Value}{nt nt':Nat}(h:zsd w wr ds vL nt)(hn:nt≤nt'):zsd w wr ds vL nt':=by
 obtain⟨own,vP,vK,bk,I,r⟩:=h
 exact⟨own,vP,vK,bk,I.mono hn,r⟩
theorem zp1 {wr:World}{ds:List (Nat × Nat)}{vL:Value}{nt:Nat}(h:zsd w wr ds vL nt)(hnt:nt<1000000)(kind e a b:Int)(s t:ByteArray)(vl vm:Value)(hx:(⟨kind,e,a,b,s,t,vl,vm⟩:S8).ok)(h9:kind≤19)(hl:∃fs,FIn w vl fs (λb=>b<w.heap.size))
  (hK:∀w2 ds2 vL2,zsd w w2 ds2 vL2 (nt+1)→R (.returned (.bool true)) w2) :
  Calls Tryz.prog 31 #[.pointer (some ⟨w.heap.size,0,none⟩),.agg #[.int .i64 kind,.int .i64 e,.int .i64 a,.int .i64 b,.string s,.string t,vl,vm]] wr R:=by
 obtain⟨own,vP,vK,bk,I,hd,hk,ho⟩:=h
 exact zxr I hnt kind e a b s t vl vm hx h9 (λ_=>by
  obtain⟨fs,hfs⟩:=hl
  exact⟨fs,(hfs.kp hk (λ_ _ e=>e)).imp (λb e=>Nat.lt_of_lt_of_le e hk.size)⟩) (Or.inr hd) (λw2 own2 ds2 vL2 vP2 vK2 bk2 k2 a2 _ I2 hd2=>hK w2 ds2 vL2 (zsd.next hk ho k2 a2 I2 hd2))
theorem za3 {wr:World}{ds:List (Nat × Nat)}{vL:Value}{nt:Nat}(h:zsd w wr ds vL nt)(hnt:nt<1000000)(e:Int)(he:-9223372036854775808≤e∧e≤9223372036854775807)
  (hK:∀w2,zsd w w2 ds vL (nt+1)→R (.returned (.bool true)) w2) :
  Calls Tryz.prog 31 #[.pointer (some ⟨w.heap.size,0,none⟩),.agg #[.int .i64 9,.int .i64 e,.int .i64 0,.int .i64 0,.string ⟨#[]⟩,.string ⟨#[]⟩,.slice none 0 0,.slice none 0 0]] wr R:=by
 obtain⟨own,vP,vK,bk,I,hd,hk,ho⟩:=h
 exact zzr I hd hnt 9 e 0 0 (by omega) he (by omega) ⟨#[]⟩ ⟨#[]⟩ (by decide) (by decide) _ _ (λw2 own2 vP2 vK2 bk2 k2 a2 I2=>hK w2 (zsd.next hk ho k2 a2 I2 hd))
theorem zsw {wr:World}{ds:List (Nat × Nat)}{vL:Value}{nt:Nat}(h:zsd w wr ds vL nt)(hnt:nt<1000000)(kind e a:Int)(hk:10≤kind∧kind≤14)(he:-9223372036854775808≤e∧e≤9223372036854775807)(ha:-9223372036854775808≤a∧a≤9223372036854775807)
  (hK:∀w2,zsd w w2 ds vL (nt+1)→R (.returned (.bool true)) w2) :
  Calls Tryz.prog 31 #[.pointer (some ⟨w.heap.size,0,none⟩),.agg #[.int .i64 kind,.int .i64 e,.int .i64 a,.int .i64 0,.string ⟨#[]⟩,.string ⟨#[126]⟩,.slice none 0 0,.slice none 0 0]] wr R:=by
 obtain⟨own,vP,vK,bk,I,hd,hk',ho⟩:=h
 exact znp I hd hnt kind e a 0 hk he ha ⟨#[]⟩ ⟨#[126]⟩ (by decide) _ _ (λw2 own2 vP2 vK2 bk2 k2 a2 I2=>hK w2 (zsd.next hk' ho k2 a2 I2 hd))
theorem zcz {wr:World}{ds:List (Nat × Nat)}{vL:Value}{nt:Nat}(h:zsd w wr ds vL nt)(hnt:nt<1000000)(e a:Int)(he:-9223372036854775808≤e∧e≤9223372036854775807)(ha:-9223372036854775808≤a∧a≤9223372036854775807)
  (hK:∀w2,zsd w w2 ds vL (nt+1)→R (.returned (.bool true)) w2) :
  Calls Tryz.prog 31 #[.pointer (some ⟨w.heap.size,0,none⟩),.agg #[.int .i64 15,.int .i64 e,.int .i64 a,.int .i64 0,.string ⟨#[]⟩,.string ⟨#[126]⟩,.slice none 0 0,.slice none 0 0]] wr R:=by
 obtain⟨own,vP,vK,bk,I,hd,hk',ho⟩:=h
 exact zmp I hd hnt 15 e a 0 (by omega) he ha (by omega) ⟨#[]⟩ ⟨#[126]⟩ _ _ (λw2 own2 ds2 vL2 bk2 k2 a2 _ hs I2=>hK w2 (by
  obtain⟨rfl,rfl⟩:=hs (by omega)
  exact zsd.next hk' ho k2 a2 I2 hd))
theorem zut {wr:World}{ds:List (Nat × Nat)}{vL:Value}{nt:Nat}(h:zsd w wr ds vL nt)(hnt:nt<1000000)
  (hK:∀w2,zsd w w2 ds vL nt→R (.returned (.bool true)) w2) :
  Calls Tryz.prog 32 #[.pointer (some ⟨w.heap.size,3,none⟩)] wr R:=by
 obtain⟨own,vP,vK,bk,I,hd,hk,ho⟩:=h
 exact zgz I hnt (λw2 k2 I2=>hK w2 ⟨own,vP,vK,bk,I2,hd,hk.trans k2 (λ_ _ h=>h),ho⟩)
theorem zsd.reads {wr:World}{ds:List (Nat × Nat)}{vL:Value}{nt:Nat}(h:zsd w wr ds vL nt):∃g cap,vL = .slice (some ⟨g,0,none⟩) ds.length cap∧ds.length≤cap∧wr.cell? ⟨w.heap.size,0,none⟩=some vL∧wr.cell? ⟨w.heap.size,1,none⟩=some (.slice none 0 0)∧ds.length≤nt∧Kp (λ_=>False) w wr∧
  ∀i (hi:i<ds.length),∃now,wr.cell? ⟨g,i*2+1,none⟩=some (.pointer (some ⟨(ds[i]).2,0,none⟩))∧wr.cell? ⟨(ds[i]).2,2,none⟩=some (.int .i64 now)∧0≤now∧now≤2000:=by
 obtain⟨own,vP,vK,bk,I,hd,hk,ho⟩:=h
 obtain⟨g,cap,hv,hc,_,hcells⟩:=zsg I.rowL hd
 refine⟨g,cap,hv,hc,zg I.book.world 0,zg I.book.world 1,I.nds,hk,λi hi=>?_⟩
 obtain⟨s,y,_,⟨vL',vT,vG,sv,lg,Y,_⟩,_,hy,_⟩:=I.duos i hi
 exact⟨y.now,(hcells i hi).2,zg Y.store 2,hy.now.1,hy.now.2⟩
set_option maxRecDepth 20000 in
set_option maxHeartbeats 2000000 in
theorem zyx (last:Int)(hlast:9≤last∧last≤19)(v:Value)(n:Nat)(f:Nat→S8)(hv:zfu w v n f)(hT:Tab w)(hn:n<120000)(hR:∀w',Kp (λ_=>False) w w'→R (.returned (.bool true)) w') :
  Calls Tryz.prog 10 #[v,.int .i64 last] w R:=by
 obtain⟨av,cap,rfl,hscr⟩:=hv.form
 have HSC:=ze hscr
 have HROWS:=ze hv.rows
 have HR:=ze hR
 have HT:=ze hT
 have hn':(n:Int)<120000:=by omega
 clear hv hscr hR hT
 go_enter Tryz.func10,Tryz.ntmps10
 go_wp2_with (first
  |(go_at_call 30;refine z9v last hlast (zzw w HT.out) (by decide) (λw1 own1 ds1 vL1 vP1 vK1 bk1 k1 a1 I1 hd1=>?_))
  |fail)
 have HG1:Hid (zsd w w1 ds1 vL1 14):=by
  refine zsd.next (wr:=w.alloc (.cells (zcf (.slice none 0 0) (.slice none 0 0) (.slice none 0 0) BO.none) 68)) (own:=zgh w.heap.size) (Kp.alloc _ _ _) (λb hb=>?_) k1 a1 I1 hd1
  have:b≠w.heap.size:=by omega
  simp[zgh,this]
 clear k1 a1 I1 hd1
 go_loopw [6,7] (λv6 v7 wr=>∃i:Nat,i≤n∧v6 = .bool true∧v7 = .int .i64 i∧∃ds vL,zsd w wr ds vL (14+i)) (λ_ v7 _=>n-(intOf v7).toNat)
 case atStart=>exact⟨0,Nat.zero_le _,rfl,rfl,ds1,vL1,HG1.out⟩
 case round=>
  obtain⟨i,hile,rfl,rfl,ds,vL,hG⟩:=hrel
  by_cases hin:i<n
  ·have hin':(i:Int)<n:=by omega
   obtain⟨g,off,rfl,hs⟩:=HSC.out (by omega)
   obtain⟨_,_,_,_,_,_,_,hk,_⟩:=hG.reads
   obtain⟨kind,e,a,b,s,t,vl,vm,hfe,hok,q0,q1,q2,q3,q4,q5,q6,q7⟩:=(hs.kept hk (λh=>h)).at i hin
   have HOK:=ze hok
   have HG:=ze hG
   have HVL:Hid (∃fs,FIn w vl fs (λb=>b<w.heap.size)):=by
    have h:=HROWS.out i hin
    rw[hfe]at h
    exact h
   clear hfe
   by_cases hk9:kind≤last
   ·have hk9':¬last<kind:=by omega
    have HK9:=ze (show kind≤19 by omega)
    clear hs hok hG hk hin hile hk9
    go_wp2_with (first
     |(go_at_call 31;refine zp1 HG.out ?_ kind e a b s t vl vm HOK.out HK9.out HVL.out (λw2 ds2 vL2 hG2=>?_);(omega);have HG2:=ze hG2;clear hG2)
     |(go_at_call 32;refine zut HG2.out ?_ (λw3 hG3=>?_);(omega))
     |fail)
    go_roundw
    case rel=>exact⟨i+1,by omega,rfl,by go_num,ds2,vL2,hG3⟩
    case measure=>simp[intOf];omega
   ·have hk9':last<kind:=by omega
    clear hs hok hG hk hin hile hk9
    go_wp2
    go_roundw
    case rel=>
     obtain⟨own,vP,vK,bk,I,r⟩:=HG.out
     exact⟨i+1,by omega,rfl,by go_num,ds,vL,own,vP,vK,bk,I.mono (by omega),r⟩
    case measure=>simp[intOf];omega
  ·have hie:i=n:=by omega
   subst hie
   have HG:=ze hG
   clear hG hile hin
   go_wp2
   go_loopw [6,9] (λv6 v9 wq=>∃j:Nat,j≤ds.length∧v6 = .bool true∧v9 = .int .i64 j∧zsd w wq ds vL (14+i+6*j)) (λ_ v9 _=>ds.length-(intOf v9).toNat)
   case atStart=>exact⟨0,Nat.zero_le _,rfl,rfl,HG.out⟩
   case round=>
    obtain⟨j,hjle,rfl,rfl,hG⟩:=hrel
    obtain⟨g,cap,hvL,hcap,c0,c1,_,_,hreads⟩:=hG.reads
    obtain⟨_,_,_,_,_,_,hnd,_,_⟩:=HG.out.reads
    rw[hvL]at c0
    have hd':(ds.length:Int)<1000000:=by omega
    have HGJ:=ze hG
    by_cases hjn:j<ds.length
    ·have hjn':(j:Int)<ds.length:=by omega
     have HHD:=ze hnd
     have HJN:=ze hjn
     clear hG hreads hjle hnd
     go_wp2_with (first
      |(go_at_call 31;refine za3 HGJ.out ?_ (j:Int) ?_ (λw2 hG2=>?_);(have:=HHD.out;omega);(exact⟨by omega,by omega⟩);obtain⟨g2,cap2,hvL2,_,y0,_,_,_,hr2⟩:=hG2.reads;(rw[hvL2]at y0);obtain⟨now,y1,y2,now1,now2⟩:=hr2 j HJN.out;have HG2:=ze hG2;clear hG2 hr2 hvL2)
      |fail)
     clear y0 y1 y2
     go_loopw [6,11] (λv6 v11 wz=>∃q:Nat,q≤5∧v6 = .bool true∧v11 = .int .i64 (11+q)∧zsd w wz ds vL (14+i+6*j+1+q)) (λ_ v11 _=>(20-intOf v11).toNat)
     case atStart=>exact⟨0,by omega,rfl,rfl,HG2.out⟩
     case round=>
      obtain⟨q,hq4,rfl,rfl,hGq⟩:=hrel
      have HGQ:=ze hGq
      clear hGq
      rcases (by omega:q=0∨q=1∨q=2∨q=3∨q=4∨q=5) with rfl|rfl|rfl|rfl|rfl|rfl
      ·rw[show (11:Int)+((0:Nat):Int)=11 from rfl]
       by_cases hkl:(11:Int)≤last
       ·have dk:decide ((11:Int)≤last)=true:=by simpa using hkl
        clear hkl
        go_wp2_with (first
         |(go_at_call 31;refine zsw HGQ.out ?_ 11 (j:Int) now (by omega) ?_ ?_ (λw3 hG3=>?_);(have:=HHD.out;omega);(exact⟨by omega,by omega⟩);(exact⟨by omega,by omega⟩);have HG3:=ze hG3;clear hG3)
         |fail)
        go_roundw
        case rel=>exact⟨0+1,by omega,rfl,by go_num,HG3.out⟩
        case measure=>simp[intOf]<;>omega
       ·have dk:decide ((11:Int)≤last)=false:=by simpa using hkl
        clear hkl
        go_wp2
        go_roundw
        case rel=>exact⟨j+1,by omega,rfl,by go_num,HGQ.out.mono (by omega)⟩
        case measure=>simp[intOf];omega
      ·rw[show (11:Int)+((1:Nat):Int)=12 from rfl]
       by_cases hkl:(12:Int)≤last
       ·have dk:decide ((12:Int)≤last)=true:=by simpa using hkl
        clear hkl
        go_wp2
        go_roundw
        case rel=>exact⟨1+1,by omega,rfl,by go_num,HGQ.out.mono (by omega)⟩
        case measure=>simp[intOf]<;>omega
       ·have dk:decide ((12:Int)≤last)=false:=by simpa using hkl
        clear hkl
        go_wp2
        go_roundw
        case rel=>exact⟨j+1,by omega,rfl,by go_num,HGQ.out.mono (by omega)⟩
        case measure=>simp[intOf];omega
      ·rw[show (11:Int)+((2:Nat):Int)=13 from rfl]
       by_cases hkl:(13:Int)≤last
       ·have dk:decide ((13:Int)≤last)=true:=by simpa using hkl
        clear hkl
        go_wp2
        go_roundw
        case rel=>exact⟨2+1,by omega,rfl,by go_num,HGQ.out.mono (by omega)⟩
        case measure=>simp[intOf]<;>omega
       ·have dk:decide ((13:Int)≤last)=false:=by simpa using hkl
        clear hkl
        go_wp2
        go_roundw
        case rel=>exact⟨j+1,by omega,rfl,by go_num,HGQ.out.mono (by omega)⟩
        case measure=>simp[intOf];omega
      ·rw[show (11:Int)+((3:Nat):Int)=14 from rfl]
       by_cases hkl:(14:Int)≤last
       ·have dk:decide ((14:Int)≤last)=true:=by simpa using hkl
        clear hkl
        go_wp2_with (first
         |(go_at_call 31;refine zsw HGQ.out ?_ 14 (j:Int) now (by omega) ?_ ?_ (λw3 hG3=>?_);(have:=HHD.out;omega);(exact⟨by omega,by omega⟩);(exact⟨by omega,by omega⟩);have HG3:=ze hG3;clear hG3)
         |fail)
        go_roundw
        case rel=>exact⟨3+1,by omega,rfl,by go_num,HG3.out⟩
        case measure=>simp[intOf]<;>omega
       ·have dk:decide ((14:Int)≤last)=false:=by simpa using hkl
        clear hkl
        go_wp2
        go_roundw
        case rel=>exact⟨j+1,by omega,rfl,by go_num,HGQ.out.mono (by omega)⟩
        case measure=>simp[intOf];omega
      ·rw[show (11:Int)+((4:Nat):Int)=15 from rfl]
       by_cases hkl:(15:Int)≤last
       ·have dk:decide ((15:Int)≤last)=true:=by simpa using hkl
        clear hkl
        go_wp2_with (first
         |(go_at_call 31;refine zcz HGQ.out ?_ (j:Int) now ?_ ?_ (λw3 hG3=>?_);(have:=HHD.out;omega);(exact⟨by omega,by omega⟩);(exact⟨by omega,by omega⟩);have HG3:=ze hG3;clear hG3)
         |fail)
        go_roundw
        case rel=>exact⟨4+1,by omega,rfl,by go_num,HG3.out⟩
        case measure=>simp[intOf]<;>omega
       ·have dk:decide ((15:Int)≤last)=false:=by simpa using hkl
        clear hkl
        go_wp2
        go_roundw
        case rel=>exact⟨j+1,by omega,rfl,by go_num,HGQ.out.mono (by omega)⟩
        case measure=>simp[intOf];omega
      ·rw[show (11:Int)+((5:Nat):Int)=16 from rfl]
       by_cases hkl:(16:Int)≤last
       ·have dk:decide ((16:Int)≤last)=true:=by simpa using hkl
        clear hkl
        go_wp2
        go_roundw
        case rel=>exact⟨j+1,by omega,rfl,by go_num,HGQ.out.mono (by omega)⟩
        case measure=>simp[intOf];omega
       ·have dk:decide ((16:Int)≤last)=false:=by simpa using hkl
        clear hkl
        go_wp2
        go_roundw
        case rel=>exact⟨j+1,by omega,rfl,by go_num,HGQ.out.mono (by omega)⟩
        case measure=>simp[intOf];omega
    ·have hje:j=ds.length:=by omega
     have hnl:¬(j:Int)<ds.length:=by omega
     have hnt:14+i+6*j<1000000:=by omega
     have HNT:=ze hnt
     clear hG hreads hjle hnd hjn hje hnt
     go_wp2
     go_loopw [6,12] (λv6 v12 wz=>v6 = .bool true∧v12 = .int .i64 0∧wz=wr) (λ_ _ _=>0)
     case atStart=>exact⟨rfl,rfl,rfl⟩
     case round=>
      obtain⟨rfl,rfl,hww⟩:=hrel
      rw[hww]
      clear hww
      go_wp2_with (first
       |(go_at_call 32;refine zut HGJ.out HNT.out (λw3 hG3=>?_);obtain⟨_,_,_,_,_,_,_,hk3,_⟩:=hG3.reads;have HF:=ze (HR.out w3 hk3);clear hG3 hk3)
       |fail)
      exact HF.out
end
end
end Go.Proofs.YthbdpfccfcceiaaGreatDoor
