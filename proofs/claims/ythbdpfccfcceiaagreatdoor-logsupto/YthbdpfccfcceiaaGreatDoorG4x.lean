/-
  Of the proof of logsUpto_card.
-/
import Derived.Test.YthbdpfccfcceiaaGreatDoorA1x
import Derived.BigRegion
import Derived.Test.YthbdpfccfcceiaaGreatDoorT3
namespace Go.Proofs.YthbdpfccfcceiaaGreatDoor
section
open Go.RowKit
theorem zto:∀(l:List (ByteArray × ByteArray)) (j:Nat) (hj:j<l.length),(z9 l)[j*2]?=some (.string l[j].1)∧(z9 l)[j*2+1]?=some (.string l[j].2)
 |a::r,0,_=>by simp[z9]
 |a::r,j+1,hj=>by
  have ih:=zto r j (by simpa using hj)
  have e:z9 (a::r) = .string a.1::.string a.2::z9 r:=by simp[z9]
  rw[e,show (j+1)*2=j*2+1+1 by omega]
  simpa using ih
theorem zbl {w:World}{base n:Nat}{v:Value}{l:List (ByteArray × ByteArray)}(h:w.ownsRow base 105 2 v n (z9 l)):l.length=n∧∃a cap,v = .slice a n cap∧n≤cap∧∀j (hj:j<l.length),∃g,a=some ⟨g,0,none⟩∧w.cell? ⟨g,j*2,none⟩=some (.string l[j].1)∧w.cell? ⟨g,j*2+1,none⟩=some (.string l[j].2):=by
 have hl:l.length=n:=by have:=h.1;rw[zai]at this;omega
 refine⟨hl,?_⟩
 rcases h.2 with ⟨rfl,rfl⟩|⟨g,cap,cur,rfl,hb,hg,hn,hm,hcs,ht⟩
 ·exact⟨none,0,rfl,Nat.le_refl _,λj hj=>by omega⟩
 ·refine⟨_,cap,rfl,hn,λj hj=>⟨g,rfl,?_⟩⟩
  have key:∀i u,(z9 l)[i]?=some u→w.cell? ⟨g,i,none⟩=some u:=λi u hu=>by
   have:w.cell? ⟨g,i,none⟩=cur[i]?:=by simp[World.cell?,hg]
   rw[this,← Array.getElem?_toList]
   rw[← ht,List.getElem?_take]at hu
   split at hu
   ·exact hu
   ·cases hu
  obtain⟨a1,a2⟩:=zto l j hj
  exact⟨key _ _ a1,key _ _ a2⟩
section
variable {R:Ending→World→Prop}{w:World}
set_option maxRecDepth 20000 in
set_option maxHeartbeats 1000000 in
theorem zmt (p:Nat)(v v':Value)(n:Nat)(xs:List (ByteArray × ByteArray))(er:Int)(hn:n<1000000)(hv:w.ownsRow 0 105 2 v n (z9 xs))(hv':w.ownsRow 0 105 2 v' n (z9 xs))
  (hB:∀w1,Kp (λ_=>False) w w1→Calls Tryz.prog 154 #[.pointer (some ⟨p,3,none⟩),v] w1 (λr w2=>r = .returned (.tuple #[])∧R (.returned (.bool true)) w2)) (_hp:p<w.heap.size) :
  Calls Tryz.prog 100 #[.pointer (some ⟨p,0,none⟩),v,.int .i64 er,v',.int .i64 er] w R:=by
 obtain⟨hl,a,cap,rfl,hc,hx⟩:=zbl hv
 obtain⟨_,a',cap',rfl,hc',hx'⟩:=zbl hv'
 have HX:=ze hx
 have HX':=ze hx'
 have HB:=ze hB
 have hn':(n:Int)<1000000:=by omega
 clear hv hv' hx hx' hB
 go_enter Tryz.func100,Tryz.ntmps100
 go_wp2
 go_loopw [11,12] (λv11 v12 wr=>∃i:Nat,i≤n∧v11 = .bool true∧v12 = .int .i64 i∧Kp (λ_=>False) w wr) (λ_ v12 _=>n-(intOf v12).toNat)
 case atStart=>exact⟨0,Nat.zero_le _,rfl,rfl,Kp.refl _ _⟩
 case round=>
  obtain⟨i,hile,rfl,rfl,hkp⟩:=hrel
  by_cases hin:i<n
  ·have hin':(i:Int)<n:=by omega
   obtain⟨g,rfl,q0,q1⟩:=HX.out i (by omega)
   obtain⟨g',rfl,q0',q1'⟩:=HX'.out i (by omega)
   have r0:=(hkp.cell (World.block_lt_of_cell? w _ q0) (λh=>h)).trans q0
   have r1:=(hkp.cell (World.block_lt_of_cell? w _ q1) (λh=>h)).trans q1
   have r0':=(hkp.cell (World.block_lt_of_cell? w _ q0') (λh=>h)).trans q0'
   have r1':=(hkp.cell (World.block_lt_of_cell? w _ q1') (λh=>h)).trans q1'
   generalize (xs[i]'(by omega)).1=x1 at r0 r0'
   generalize (xs[i]'(by omega)).2=x2 at r1 r1'
   have HKP:=ze hkp
   clear q0 q1 q0' q1' hkp hin
   go_wp2
   go_quiet (fail)
   go_wp2
   go_roundw
   case rel=>exact⟨i+1,by omega,rfl,by go_num,HKP.out.trans (Kp.drewN (λ_=>False) _ _) (λ_ _ h=>h)⟩
   case measure=>simp[intOf];omega
  ·have hie:i=n:=by omega
   subst hie
   have HKP:=ze hkp
   clear hkp hile hin
   go_wp2_with (first
    |(go_at_call 154;refine (HB.out wr HKP.out).mono ?_;rintro r w2 ⟨rfl,hr⟩)
    |fail)
   exact hr
end
end
section
open Go.RowKit
structure BO where
 l:List (Value × Nat × Int)
 vB:Value
 vI:Value
 b:List (Value × Nat × Int)
 vF:Value
 vJ:Value
 f:List (Value × Nat × Int × Nat)
def BO.none:BO:=⟨[],.slice .none 0 0,.slice .none 0 0,[],.slice .none 0 0,.slice .none 0 0,[]⟩
def zcf (vL vP vK:Value)(bk:BO):Array Value:=#[vL,.slice none 0 0,.slice none 0 0,bk.vB,bk.vI,vP,vK,bk.vF,bk.vJ]
def zaf (k:Int)(i:Nat):Int:=if i % 2=0 then k % 256 else k / 256 % 256
def zfj (k:Int)(i:Nat):Value:=.int .u8 (zaf k i)
def z9c (k:Int)(n:Nat):List Value:=(List.range n).map (zfj k)
def zlf (g:Nat):Value:=.slice (some ⟨g,0,none⟩) 2 2
def ztn (k:Int):Array Value:=#[.int .u8 (k % 256),.int .u8 (k / 256 % 256)]
structure Bq (own:Nat→Lab)(w:World)(bk:BO):Prop where
 rowB:w.ownsRow 0 48 1 bk.vB bk.b.length (bk.b.map (·.1))
 ownB:∀b,bk.vB.ownBlock=some b→own b=⟨0,4,0,eb⟩
 rowI:w.ownsRow 0 3 1 bk.vI bk.b.length (bk.b.map λq=>.int .i64 q.2.2)
 ownI:∀b,bk.vI.ownBlock=some b→own b=⟨0,5,0,eb⟩
 fourB:∃q,bk.b.length=4*q
 listsB:∀q∈bk.b,w.ownsRow 0 5 1 q.1 q.2.1 (z9c q.2.2 q.2.1)
 ownRB:∀q∈bk.b,∀b,q.1.ownBlock=some b→(own b).c=1
 numB:∀q∈bk.b,1≤q.2.2∧q.2.2<100000000000∧q.2.1<10000000
 rowF:w.ownsRow 0 37 1 bk.vF bk.f.length (bk.f.map (·.1))
 ownF:∀b,bk.vF.ownBlock=some b→own b=⟨0,6,0,eb⟩
 rowJ:w.ownsRow 0 3 1 bk.vJ bk.f.length (bk.f.map λq=>.int .i64 q.2.2.1)
 ownJ:∀b,bk.vJ.ownBlock=some b→own b=⟨0,7,0,eb⟩
 fourF:∃q,bk.f.length=4*q
 listsF:∀q∈bk.f,w.ownsRow 0 48 1 q.1 q.2.1 (List.replicate q.2.1 (zlf q.2.2.2))
 ownRF:∀q∈bk.f,∀b,q.1.ownBlock=some b→(own b).c=1
 markF:∀q∈bk.f,w.heap[q.2.2.2]?=some (.cells (ztn q.2.2.1) 5 (0,0))∧(own q.2.2.2).c=1
 numF:∀q∈bk.f,1≤q.2.2.1∧q.2.2.1<10000000∧q.2.1<10000000
def BqL (l:Lab):Prop:=l.c=1∨(l.c=0∧4≤l.k∧l.k≤7)
theorem zjh {w w':World}{base e size n:Nat}{v:Value}{xs:List Value}(h:w.ownsRow base e size v n xs)(hb:∀b,v.ownBlock=some b→w'.heap[b]?=w.heap[b]?):w'.ownsRow base e size v n xs:=by
 refine⟨h.1,?_⟩
 rcases h.2 with h1|⟨g,cap,cur,rfl,hg0,hg,r⟩
 ·exact Or.inl h1
 ·exact Or.inr ⟨g,cap,cur,rfl,hg0,(hb g rfl).trans hg,r⟩
theorem Bq.frame {own own':Nat→Lab}{w w':World}{bk:BO}(h:Bq own w bk)(hb:∀b,b<w.heap.size→BqL (own b)→w'.heap[b]?=w.heap[b]?)(ho:∀b,b<w.heap.size→BqL (own b)→own' b=own b):Bq own' w' bk:=by
 have l4:∀{b},own b=⟨0,4,0,eb⟩→BqL (own b):=λe=>by rw[e];exact Or.inr ⟨rfl,by decide,by decide⟩
 have l5:∀{b},own b=⟨0,5,0,eb⟩→BqL (own b):=λe=>by rw[e];exact Or.inr ⟨rfl,by decide,by decide⟩
 have l6:∀{b},own b=⟨0,6,0,eb⟩→BqL (own b):=λe=>by rw[e];exact Or.inr ⟨rfl,by decide,by decide⟩
 have l7:∀{b},own b=⟨0,7,0,eb⟩→BqL (own b):=λe=>by rw[e];exact Or.inr ⟨rfl,by decide,by decide⟩
 refine⟨zjh h.rowB (λb e=>hb b (h.rowB.lt b e).2 (l4 (h.ownB b e))),λb e=>(ho b (h.rowB.lt b e).2 (l4 (h.ownB b e))).trans (h.ownB b e),zjh h.rowI (λb e=>hb b (h.rowI.lt b e).2 (l5 (h.ownI b e))),λb e=>(ho b (h.rowI.lt b e).2 (l5 (h.ownI b e))).trans (h.ownI b e),h.fourB,λq hq=>?_,λq hq b e=>?_,h.numB,
  zjh h.rowF (λb e=>hb b (h.rowF.lt b e).2 (l6 (h.ownF b e))),λb e=>(ho b (h.rowF.lt b e).2 (l6 (h.ownF b e))).trans (h.ownF b e),zjh h.rowJ (λb e=>hb b (h.rowJ.lt b e).2 (l7 (h.ownJ b e))),λb e=>(ho b (h.rowJ.lt b e).2 (l7 (h.ownJ b e))).trans (h.ownJ b e),h.fourF,λq hq=>?_,λq hq b e=>?_,λq hq=>?_,h.numF⟩
 ·exact zjh (h.listsB q hq) (λb e=>hb b ((h.listsB q hq).lt b e).2 (Or.inl (h.ownRB q hq b e)))
 ·rw[ho b ((h.listsB q hq).lt b e).2 (Or.inl (h.ownRB q hq b e))];exact h.ownRB q hq b e
 ·exact zjh (h.listsF q hq) (λb e=>hb b ((h.listsF q hq).lt b e).2 (Or.inl (h.ownRF q hq b e)))
 ·rw[ho b ((h.listsF q hq).lt b e).2 (Or.inl (h.ownRF q hq b e))];exact h.ownRF q hq b e
 ·obtain⟨h1,h2⟩:=h.markF q hq
  have hl:=zh h1
  exact⟨(hb _ hl (Or.inl h2)).trans h1,by rw[ho _ hl (Or.inl h2)];exact h2⟩
theorem zg1 (own:Nat→Lab)(w:World):Bq own w BO.none:=
 ⟨World.ownsRow_nil _ _ _ _,λb e=>(by cases e),World.ownsRow_nil _ _ _ _,λb e=>(by cases e),⟨0,rfl⟩,λq hq=>(by cases hq),λq hq=>(by cases hq),λq hq=>(by cases hq),
  World.ownsRow_nil _ _ _ _,λb e=>(by cases e),World.ownsRow_nil _ _ _ _,λb e=>(by cases e),⟨0,rfl⟩,λq hq=>(by cases hq),λq hq=>(by cases hq),λq hq=>(by cases hq),λq hq=>(by cases hq)⟩
structure Bk (own:Nat→Lab)(w:World)(p:Nat)(vL vP vK:Value)(bk:BO):Prop where
 ownP:own p=⟨0,0,0,eb⟩
 world:w.heap[p]?=some (.cells (zcf vL vP vK bk) 68 (0,0))
 rowP:w.ownsRow 0 43 1 vP bk.l.length (bk.l.map (·.1))
 ownQ:∀b,vP.ownBlock=some b→own b=⟨0,2,0,eb⟩
 rowK:w.ownsRow 0 3 1 vK bk.l.length (bk.l.map λq=>.int .i64 q.2.2)
 ownK:∀b,vK.ownBlock=some b→own b=⟨0,3,0,eb⟩
 four:∃q,bk.l.length=4*q
 lists:∀q∈bk.l,w.ownsRow 0 105 2 q.1 q.2.1 (z9 (List.replicate q.2.1 (eb,zsc q.2.2)))
 ownR:∀q∈bk.l,∀b,q.1.ownBlock=some b→(own b).c=1
 num:∀q∈bk.l,1≤q.2.2∧q.2.2<10000000∧q.2.1<10000000
theorem z4h {w:World}{base e n:Nat}{v:Value}{xs:List Value}(h:w.ownsRow base e 1 v n xs)(j:Nat)(hj:j<n):∃g cap,v = .slice (some ⟨g,0,none⟩) n cap∧n≤cap∧w.cell? ⟨g,j,none⟩=xs[j]?:=by
 have hl:xs.length=n:=by simpa using h.1
 rcases h.2 with ⟨rfl,rfl⟩|⟨g,cap,cur,rfl,hb,hg,hn,hm,hcs,ht⟩
 ·omega
 ·refine⟨g,cap,rfl,hn,?_⟩
  have:w.cell? ⟨g,j,none⟩=cur[j]?:=by simp[World.cell?,hg]
  rw[this,← Array.getElem?_toList,← ht,List.getElem?_take,if_pos (by omega)]
theorem zrj (k:Int)(w:World):(convert 48 9 (.slice (some ⟨w.heap.size,0,none⟩) 2 2)).run Tryz.prog (w.alloc (.cells #[.int .u8 (k % 256),.int .u8 (k / 256 % 256)] 5)).drew = .ok (.string (zsc k)) (w.alloc (.cells #[.int .u8 (k % 256),.int .u8 (k / 256 % 256)] 5)).drew:=zxo k w.drew
end
section
open Go.RowKit
def zce (ds:List (Nat × Nat)):List Value:=ds.flatMap λd=>[.pointer (some ⟨d.1,0,none⟩),.pointer (some ⟨d.2,0,none⟩)]
structure Inv (own:Nat→Lab)(w:World)(p:Nat)(ds:List (Nat × Nat))(vL vP vK:Value)(bk:BO)(nt:Nat):Prop where
 book:Bk own w p vL vP vK bk
 rowL:w.ownsRow 0 81 2 vL ds.length (zce ds)
 ownL:∀b,vL.ownBlock=some b→own b=⟨0,1,0,eb⟩
 duos:∀i (hi:i<ds.length),Duo own i w (ds[i]).1 (ds[i]).2 nt
 nds:ds.length≤nt
 nbk:bk.l.length≤4*nt∧bk.b.length≤8000*nt∧bk.f.length≤4*nt
 tab:Tab w
 tabO:own 0=zt∧own 1=zt
 more:Bq own w bk
section
variable {own own' own3:Nat→Lab}{i:Nat}{w w' w3 w4:World}{p nt:Nat}{ds:List (Nat × Nat)}{vL vP vK:Value}{bk:BO}
theorem Bk.frame (h:Bk own w p vL vP vK bk)(hb:∀b,b<w.heap.size→(own b).c≤1→w'.heap[b]?=w.heap[b]?)(ho:∀b,b<w.heap.size→(own b).c≤1→own' b=own b):Bk own' w' p vL vP vK bk:=by
 have lp:=zh h.world
 refine⟨(ho p lp (by rw[h.ownP];simp)).trans h.ownP,(hb p lp (by rw[h.ownP];simp)).trans h.world,?_,?_,?_,?_,h.four,?_,?_,h.num⟩
 ·exact zl h.rowP (λb e=>hb b (h.rowP.lt b e).2 (by rw[h.ownQ b e];simp))
 ·exact λb e=>(ho b (h.rowP.lt b e).2 (by rw[h.ownQ b e];simp)).trans (h.ownQ b e)
 ·exact zl h.rowK (λb e=>hb b (h.rowK.lt b e).2 (by rw[h.ownK b e];simp))
 ·exact λb e=>(ho b (h.rowK.lt b e).2 (by rw[h.ownK b e];simp)).trans (h.ownK b e)
 ·exact λq hq=>zl (h.lists q hq) (λb e=>hb b ((h.lists q hq).lt b e).2 (by rw[h.ownR q hq b e];simp))
 ·exact λq hq b e=>by rw[ho b ((h.lists q hq).lt b e).2 (by rw[h.ownR q hq b e];simp)];exact h.ownR q hq b e
theorem Inv.touch (h:Inv own w p ds vL vP vK bk nt)(hi:i<ds.length)(k:Kp (Cap own i) w w3)(a:∀b,b<w.heap.size→own3 b=own b)(d:Duo own3 i w3 (ds[i]).1 (ds[i]).2 (nt+1)):Inv own3 w3 p ds vL vP vK bk (nt+1):=by
 have hn:=h.nds
 have hm:=h.nbk
 have nc:∀b,(own b).c≤1→¬Cap own i b:=λb hc e=>by
  rcases e with e|e<;>omega
 refine⟨h.book.frame (λb hb hc=>k.block b hb (nc b hc)) (λb hb _=>a b hb),?_,?_,?_,by omega,by omega,h.tab.kp k (nc 0 (by rw[h.tabO.1];simp[zt])) (nc 1 (by rw[h.tabO.2];simp[zt])),⟨(a 0 h.tab.lt.1).trans h.tabO.1,(a 1 h.tab.lt.2).trans h.tabO.2⟩,h.more.frame (λb hb hc=>k.block b hb (nc b (by rcases hc with hc|hc<;>omega))) (λb hb _=>a b hb)⟩
 ·exact zl h.rowL (λb e=>k.block b (h.rowL.lt b e).2 (nc b (by rw[h.ownL b e];simp)))
 ·exact λb e=>(a b (h.rowL.lt b e).2).trans (h.ownL b e)
 ·intro j hj
  by_cases hji:j=i
  ·subst hji;exact d
  ·exact ((h.duos j hj).frame (λb hb hc=>k.block b hb (λe=>by
    rcases hc with (hc|hc)|hc
    ·rcases e with e|e<;>omega
    ·rcases e with e|e<;>omega
    ·exact nc b (by rw[hc];simp[zt]) e)) (λb hb _=>a b hb)).mono (by omega)
theorem Inv.same (h:Inv own w p ds vL vP vK bk nt)(k:Kp (λ_=>False) w w3)(a:∀b,b<w.heap.size→own3 b=own b):Inv own3 w3 p ds vL vP vK bk nt:=by
 refine⟨h.book.frame (λb hb hc=>k.block b hb (λe=>e)) (λb hb _=>a b hb),?_,?_,?_,h.nds,h.nbk,h.tab.kept k,⟨(a 0 h.tab.lt.1).trans h.tabO.1,(a 1 h.tab.lt.2).trans h.tabO.2⟩,h.more.frame (λb hb _=>k.block b hb (λe=>e)) (λb hb _=>a b hb)⟩
 ·exact zl h.rowL (λb e=>k.block b (h.rowL.lt b e).2 (λe=>e))
 ·exact λb e=>(a b (h.rowL.lt b e).2).trans (h.ownL b e)
 ·intro j hj
  exact (h.duos j hj).frame (λb hb hc=>k.block b hb (λe=>e)) (λb hb _=>a b hb)
theorem Inv.mono {nt':Nat}(h:Inv own w p ds vL vP vK bk nt)(hn:nt≤nt'):Inv own w p ds vL vP vK bk nt':=
 ⟨h.book,h.rowL,h.ownL,λi hi=>(h.duos i hi).mono hn,Nat.le_trans h.nds hn,by have:=h.nbk;omega,h.tab,h.tabO,h.more⟩
theorem Inv.tabN (h:Inv own w p ds vL vP vK bk nt)(i:Nat):zid own (2*i+2):=by
 unfold zid
 rw[h.tabO.1,h.tabO.2]
 exact⟨by simp[zt],by simp[zt]⟩
theorem zkm {b:Nat}(h:Cap own i b):own b≠zt:=λe=>by
 unfold Cap at h
 rw[e]at h
 rcases h with h|h<;>simp[zt]at h
variable {R:Ending→World→Prop}
theorem zuj (h:Inv own w p ds vL vP vK bk nt)(hnt:nt<1000000)(k3:Kp (λ_=>False) w w3)(v v':Value)(n:Nat)(xs:List (ByteArray × ByteArray))(er:Int)(hn:n<1000000)
  (hv:w3.ownsRow w.heap.size 105 2 v n (z9 xs)) (hv':w3.ownsRow 0 105 2 v' n (z9 xs))
  (hK:∀w' own' vP' vK' bk',Kp (λb=>own b≠zt) w w'→(∀b,b<w.heap.size→own' b=own b)→Inv own' w' p ds vL vP' vK' bk' (nt+1)→R (.returned (.bool true)) w') :
  Calls Tryz.prog 100 #[.pointer (some ⟨p,0,none⟩),v,.int .i64 er,v',.int .i64 er] w3 (λr w4=>r = .returned (.bool true)∧R (.returned (.bool true)) w4):=by
 have hv0:w3.ownsRow 0 105 2 v n (z9 xs):=⟨hv.1,hv.2.imp id (λ⟨g,cap,cur,e1,_,e3⟩=>⟨g,cap,cur,e1,Nat.zero_le _,e3⟩)⟩
 have hvb:∀b,v.ownBlock=some b→w.heap.size≤b:=λb e=>(hv.lt b e).1
 have lp:=zh h.book.world
 refine zmt p v v' n xs er hn hv0 hv' (λw4 k34=>?_) (Nat.lt_of_lt_of_le lp k3.size)
 have k4:=k3.trans k34 (λ_ _ h=>h)
 have hs4:=k4.size
 have agree:∀b,b<w.heap.size→(λb=>if b<w.heap.size then own b else (⟨1,0,0,eb⟩:Lab)) b=own b:=λb hb=>by simp[hb]
 have I:=h.same (own3:=λb=>if b<w.heap.size then own b else ⟨1,0,0,eb⟩) k4 agree
 have newlab:∀b,w.heap.size≤b→(λb=>if b<w.heap.size then own b else (⟨1,0,0,eb⟩:Lab)) b=⟨1,0,0,eb⟩:=λb hb=>by
  have:¬b<w.heap.size:=by omega
  simp[this]
 generalize (λb=>if b<w.heap.size then own b else (⟨1,0,0,eb⟩:Lab))=own1 at agree I newlab
 have vlab:∀b,v.ownBlock=some b→own1 b=⟨1,0,0,eb⟩:=λb e=>newlab b (hvb b e)
 obtain⟨q,hq⟩:=I.book.four
 have hbk:=I.nbk
 have rP:=I.book.rowP
 have rK:=I.book.rowK
 rw[hq]at rP rK
 have hv4:w4.ownsRow 0 105 2 v n (z9 xs):=zi hv0 k34 (λ_ _ h=>h)
 have ne:∀{a b:Nat},own1 a≠own1 b→a≠b:=λh e=>h (by rw[e])
 refine zpu p (zcf vL vP vK bk) vP vK v q n (bk.l.map (·.1)) (bk.l.map λq=>.int .i64 q.2.2) xs (by omega) hn I.book.world rfl rfl rP rK hv4 ?_ ?_ ?_ ?_ ?_ ?_ ?_
 ·intro e
  have:=vlab p e
  rw[I.book.ownP]at this;simp at this
 ·intro e
  have:=I.book.ownQ p e
  rw[I.book.ownP]at this;simp at this
 ·intro e
  have:=I.book.ownK p e
  rw[I.book.ownP]at this;simp at this
 ·intro b e1 e2
  have:=I.book.ownQ b e1
  rw[vlab b e2]at this;simp at this
 ·intro b e1 e2
  have:=I.book.ownK b e1
  rw[vlab b e2]at this;simp at this
 ·intro b e1 e2
  have:=I.book.ownK b e1
  rw[I.book.ownQ b e2]at this;simp at this
 ·intro w5 vP' vK' v1 v2 v3 s5 s6 t9 hp5 g10 g11 f0 f1 f2 f3 hs5 hs56 L1 L2 L3 lP lK
  refine⟨rfl,rfl,hK w5 (λb=>if b<w4.heap.size then own1 b else if b<s5 then ⟨1,0,0,eb⟩ else if b<s6 then ⟨0,2,0,eb⟩ else ⟨0,3,0,eb⟩) vP' vK' { bk with l:=bk.l++[(v,n,(q:Int)+1),(v1,n+1,(q:Int)+1),(v2,n+2,(q:Int)+1),(v3,n+3,(q:Int)+1)] } ?_ ?_ ?_⟩
  ·refine (k4.mono (S':=λb=>own b≠zt) (λ_ _ h=>h.elim)).trans t9 (λb hb e=>?_)
   rw[← agree b hb]
   rcases e with e|e|e|e
   ·rw[e,I.book.ownP];simp[zt]
   ·rw[I.book.ownQ b e];simp[zt]
   ·rw[I.book.ownK b e];simp[zt]
   ·have:=hvb b e;omega
  ·intro b hb
   have:b<w4.heap.size:=by omega
   simp[this,agree b hb]
  ·have o4:∀b,b<w4.heap.size→(λb=>if b<w4.heap.size then own1 b else if b<s5 then (⟨1,0,0,eb⟩:Lab) else if b<s6 then ⟨0,2,0,eb⟩ else ⟨0,3,0,eb⟩) b=own1 b:=λb hb=>by simp[hb]
   have o1:∀b,w4.heap.size≤b→b<s5→(λb=>if b<w4.heap.size then own1 b else if b<s5 then (⟨1,0,0,eb⟩:Lab) else if b<s6 then ⟨0,2,0,eb⟩ else ⟨0,3,0,eb⟩) b=⟨1,0,0,eb⟩:=λb hb h5=>by
    have:¬b<w4.heap.size:=by omega
    simp[this,h5]
   have o2:∀b,s5≤b→b<s6→(λb=>if b<w4.heap.size then own1 b else if b<s5 then (⟨1,0,0,eb⟩:Lab) else if b<s6 then ⟨0,2,0,eb⟩ else ⟨0,3,0,eb⟩) b=⟨0,2,0,eb⟩:=λb hb h5=>by
    have h1:¬b<w4.heap.size:=by omega
    have h2:¬b<s5:=by omega
    simp[h1,h2,h5]
   have o3:∀b,s6≤b→(λb=>if b<w4.heap.size then own1 b else if b<s5 then (⟨1,0,0,eb⟩:Lab) else if b<s6 then ⟨0,2,0,eb⟩ else ⟨0,3,0,eb⟩) b=⟨0,3,0,eb⟩:=λb hb=>by
    have h1:¬b<w4.heap.size:=by omega
    have h2:¬b<s5:=by omega
    have h3:¬b<s6:=by omega
    simp[h1,h2,h3]
   generalize (λb=>if b<w4.heap.size then own1 b else if b<s5 then (⟨1,0,0,eb⟩:Lab) else if b<s6 then ⟨0,2,0,eb⟩ else ⟨0,3,0,eb⟩)=own5 at o4 o1 o2 o3
   -- what stays
   have T:∀b,b<w4.heap.size→own1 b≠⟨0,0,0,eb⟩→own1 b≠⟨0,2,0,eb⟩→own1 b≠⟨0,3,0,eb⟩→v.ownBlock≠some b→w5.heap[b]?=w4.heap[b]?:=λb hb h0 h2 h3 hv=>t9.block b hb (λe=>by
    rcases e with e|e|e|e
    ·exact h0 (by rw[e];exact I.book.ownP)
    ·exact h2 (I.book.ownQ b e)
    ·exact h3 (I.book.ownK b e)
    ·exact hv e)
   have hlies:∀u,zgf w4 v u s5→∀b,u.ownBlock=some b→(own5 b).c=1:=λu hu b e=>by
    rcases hu b e with h1|h1
    ·rw[o4 b (hv4.lt b h1).2,vlab b h1]
    ·rw[o1 b h1.1 h1.2]
   have lp4:p<w4.heap.size:=zh I.book.world
   have MB:Bq own5 w5 { bk with l:=bk.l++[(v,n,(q:Int)+1),(v1,n+1,(q:Int)+1),(v2,n+2,(q:Int)+1),(v3,n+3,(q:Int)+1)] }:=by
    have m0:Bq own5 w5 bk:=h.more.frame (λb hb hl=>by
     have h1:=agree b hb
     have h2:∀l:Lab,¬BqL l→own1 b≠l:=λl hn e=>hn (by rw[← e,h1];exact hl)
     rw[T b (by omega) (h2 _ (by unfold BqL;simp)) (h2 _ (by unfold BqL;simp)) (h2 _ (by unfold BqL;simp)) (λe=>by have:=hvb b e;omega)]
     exact k4.block b hb (λe=>e)) (λb hb _=>(o4 b (by omega)).trans (agree b hb))
    exact⟨m0.rowB,m0.ownB,m0.rowI,m0.ownI,m0.fourB,m0.listsB,m0.ownRB,m0.numB,m0.rowF,m0.ownF,m0.rowJ,m0.ownJ,m0.fourF,m0.listsF,m0.ownRF,m0.markF,m0.numF⟩
   refine⟨⟨(o4 p lp4).trans I.book.ownP,hp5,?_,?_,?_,?_,⟨q+1,by simp[hq];omega⟩,?_,?_,?_⟩,?_,?_,?_,by have:=h.nds;omega,by dsimp only;rw[List.length_append,hq];simp;omega,I.tab.block (T 0 I.tab.lt.1 (by rw[I.tabO.1];simp[zt]) (by rw[I.tabO.1];simp[zt]) (by rw[I.tabO.1];simp[zt]) (λe=>by have:=vlab 0 e;rw[I.tabO.1]at this;simp[zt]at this)) (T 1 I.tab.lt.2 (by rw[I.tabO.2];simp[zt]) (by rw[I.tabO.2];simp[zt]) (by rw[I.tabO.2];simp[zt]) (λe=>by have:=vlab 1 e;rw[I.tabO.2]at this;simp[zt]at this)),⟨(o4 0 I.tab.lt.1).trans I.tabO.1,(o4 1 I.tab.lt.2).trans I.tabO.2⟩,MB⟩
   ·dsimp only;rw[List.length_append,hq,List.map_append];exact g10
   ·intro b e
    rcases lP b e with h1|h1
    ·rw[o4 b (rP.lt b h1).2];exact I.book.ownQ b h1
    ·exact o2 b h1.1 h1.2
   ·dsimp only;rw[List.length_append,hq,List.map_append];exact g11
   ·intro b e
    rcases lK b e with h1|h1
    ·rw[o4 b (rK.lt b h1).2];exact I.book.ownK b h1
    ·exact o3 b h1
   ·intro u hu
    rcases List.mem_append.1 hu with h1|h1
    ·refine zl (I.book.lists u h1) (λb e=>?_)
     have hc:=I.book.ownR u h1 b e
     refine T b ((I.book.lists u h1).lt b e).2 (λe2=>by rw[e2]at hc;simp at hc) (λe2=>by rw[e2]at hc;simp at hc) (λe2=>by rw[e2]at hc;simp at hc) (λe2=>?_)
     have h3:=((h.book.lists u h1).lt b e).2
     have h4:=hvb b e2
     omega
    ·simp only[List.mem_cons,List.not_mem_nil,or_false]at h1
     rcases h1 with rfl|rfl|rfl|rfl
     ·exact f0
     ·exact f1
     ·exact f2
     ·exact f3
   ·intro u hu b e
    rcases List.mem_append.1 hu with h1|h1
    ·rw[o4 b ((I.book.lists u h1).lt b e).2];exact I.book.ownR u h1 b e
    ·simp only[List.mem_cons,List.not_mem_nil,or_false]at h1
     rcases h1 with rfl|rfl|rfl|rfl
     ·rw[o4 b (hv4.lt b e).2,vlab b e]
     ·exact hlies v1 L1 b e
     ·exact hlies v2 L2 b e
     ·exact hlies v3 L3 b e
   ·intro u hu
    rcases List.mem_append.1 hu with h1|h1
    ·exact I.book.num u h1
    ·simp only[List.mem_cons,List.not_mem_nil,or_false]at h1
     rcases h1 with rfl|rfl|rfl|rfl<;>(refine⟨?_,?_,?_⟩<;>dsimp only<;>omega)
   ·refine zl I.rowL (λb e=>?_)
    have hl:=I.ownL b e
    refine T b (I.rowL.lt b e).2 (by rw[hl];simp) (by rw[hl];simp) (by rw[hl];simp) (λe2=>?_)
    rw[vlab b e2]at hl;simp at hl
   ·intro b e
    rw[o4 b (I.rowL.lt b e).2];exact I.ownL b e
   ·intro j hj
    refine ((I.duos j hj).frame (λb hb hc=>?_) (λb hb _=>o4 b hb)).mono (by omega)
    have nz:∀l:Lab,l.c≤1→l≠zt→own1 b≠l:=λl hl h9 e=>by
     rcases hc with hc|hc
     ·unfold Cap at hc
      rw[e]at hc
      rcases hc with hc|hc<;>omega
     ·exact h9 (e.symm.trans hc)
    exact T b hb (nz _ (by simp) (by simp[zt])) (nz _ (by simp) (by simp[zt])) (nz _ (by simp) (by simp[zt])) (λe=>nz _ (by simp) (by simp[zt]) (vlab b e))
end
end
section
open Go.RowKit
section
variable {own:Nat→Lab}{i:Nat}{w:World}{p nt:Nat}{ds:List (Nat × Nat)}{vL vP vK:Value}{bk:BO}
variable {R:Ending→World→Prop}
theorem zd3 (h:Inv own w p ds vL vP vK bk nt)(hi:i<ds.length)(hnt:nt<1000000)(e a b:Int)(ha:-9223372036854775808≤a∧a≤9223372036854775807)(st tt:ByteArray)(vl vm:Value)
  (hK:∀w' own' vP' vK' bk',Kp (λb=>own b≠zt) w w'→(∀b,b<w.heap.size→own' b=own b)→Inv own' w' p ds vL vP' vK' bk' (nt+1)→R (.returned (.bool true)) w') :
  Calls Tryz.prog 61 #[.pointer (some ⟨p,0,none⟩),zjb (ds[i]).1 (ds[i]).2,zkb 4 e a b st tt vl vm] w R:=by
 obtain⟨s,y,hx,hy,ht,hI,hn⟩:=h.duos i hi
 refine zn0 w p _ _ e a b st tt vl vm ?_
 have hw:=zfd w (ds[i]).1 (ds[i]).2 4 e a b st tt vl vm
 generalize zeb w (ds[i]).1 (ds[i]).2 4 e a b st tt vl vm=w1 at hw ⊢
 have HB:=hI.yb (by omega)
 obtain⟨mo,ph,mv,mm,pt,mw,sl,X⟩:=hx.box hw
 obtain⟨vL',vT,vG,sv,lg,Y,hl,_⟩:=hy.box hw
 have hnm:=ht.nm
 have hnow:=hI.now
 refine zr3 X a (wf_i64 ha) st tt (by omega) (ht.nw hI) (ht.momOk hI) (ht.keysM hI) (ht.keysW hI) (λe0=>⟨_,_,rfl,Kp.refl _ _,?_⟩) (λx e1 w2 v ks k2 hsort hmem hlen hrow=>⟨_,_,rfl,kpF k2,?_⟩)
 ·have th:=ht.none_iff.1 e0
  refine zqt Y HB a st tt th ⟨_,rfl,?_⟩
  exact zuj h hnt hw (.slice none 0 0) (.slice none 0 0) 0 [] 2 (by omega) (World.ownsRow_nil _ _ _ _) (World.ownsRow_nil _ _ _ _) hK
 ·obtain⟨th,j,rfl,hj,ho,rfl⟩:=ht.some_at e1
  refine zu3 (Y.kept k2) HB j hj th st tt (zuc s (zec y.txs[j])) (ht.seen hI _) (λw3 v' ks' k3 hsort' hmem' hlen' hrow'=>⟨v',rfl,?_⟩)
  have hks:ks'=ks:=zii hsort' hsort (λk=>by
   rw[hmem,hmem',ht.mom,zxj]
   show _↔(_∨(zle (y.txs[j]).l k).isSome=true)∧_
   rw[zsh]
   constructor
   ·rintro⟨⟨v,hv,e⟩,hr⟩
    rcases List.mem_append.1 hv with h1|h1
    ·exact⟨Or.inl ⟨v,h1,e⟩,hr⟩
    ·exact⟨Or.inr ⟨v,h1,e⟩,hr⟩
   ·rintro⟨⟨v,hv,e⟩|⟨v,hv,e⟩,hr⟩
    ·exact⟨⟨v,List.mem_append.2 (Or.inl hv),e⟩,hr⟩
    ·exact⟨⟨v,List.mem_append.2 (Or.inr hv),e⟩,hr⟩)
  subst hks
  have hlf:=List.length_filterMap_le (zdb (zuc s (zec y.txs[j]))) ks'
  have hrow3:=zi hrow k3 (λ_ _ h=>h)
  refine zuj h hnt ((hw.trans k2 (λ_ _ h=>h)).trans k3 (λ_ _ h=>h)) v v' _ _ 0 (by omega) ⟨hrow3.1,hrow3.2.imp id (λ⟨g,cap,cur,e1,e2,e3⟩=>⟨g,cap,cur,e1,Nat.le_trans hw.size e2,e3⟩)⟩ ⟨hrow'.1,hrow'.2.imp id (λ⟨g,cap,cur,e1,_,e3⟩=>⟨g,cap,cur,e1,Nat.zero_le _,e3⟩)⟩ hK
theorem z63 (h:Inv own w p ds vL vP vK bk nt)(hi:i<ds.length)(hnt:nt<1000000)(kind e a b:Int)(hk:2≤kind∧kind≤9)(ha:-9223372036854775808≤a∧a≤9223372036854775807)(st tt:ByteArray)(hst:st.size≤maxLen)(htt:tt.size≤maxLen)(vl vm:Value)
  (hK:∀w' own' vP' vK' bk',Kp (λb=>own b≠zt) w w'→(∀b,b<w.heap.size→own' b=own b)→Inv own' w' p ds vL vP' vK' bk' (nt+1)→R (.returned (.bool true)) w') :
  Calls Tryz.prog 61 #[.pointer (some ⟨p,0,none⟩),zjb (ds[i]).1 (ds[i]).2,zkb kind e a b st tt vl vm] w R:=by
 have hD:=h.duos i hi
 have hn':nt<100000000:=by omega
 have K:∀w3 own3,Kp (Cap own i) w w3→(∀b,b<w.heap.size→own3 b=own b)→Duo own3 i w3 (ds[i]).1 (ds[i]).2 (nt+1)→R (.returned (.bool true)) w3:=λw3 own3 k a d=>hK w3 own3 vP vK bk (k.mono (λ_ _ h=>zkm h)) a (h.touch hi k a d)
 rcases (by omega:kind=2∨kind=3∨kind=4∨kind=5∨kind=6∨kind=7∨kind=8∨kind=9) with rfl|rfl|rfl|rfl|rfl|rfl|rfl|rfl
 ·exact zl1 hD hn' e a b st tt vl vm K
 ·exact zy3 hD hn' e a b ha st tt hst htt vl vm K
 ·exact zd3 h hi hnt e a b ha st tt vl vm hK
 ·exact z03 hD hn' e a b ha st tt hst htt vl vm K
 ·exact zxy hD hn' e a b ha st tt hst htt vl vm K
 ·exact zwy hD h.tab (h.tabN i) hn' e a b ha st tt hst htt vl vm K
 ·exact zk1 hD hn' e a b ha st tt hst htt vl vm K
 ·exact zz3 hD hn' e a b ha st tt hst htt vl vm K
end
end
end Go.Proofs.YthbdpfccfcceiaaGreatDoor
