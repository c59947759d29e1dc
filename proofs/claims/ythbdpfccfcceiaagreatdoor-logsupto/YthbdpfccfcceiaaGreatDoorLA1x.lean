/-
  Of the proof of logsUpto_card.
-/
import Derived.Test.YthbdpfccfcceiaaGreatDoorG16
namespace Go.Proofs.YthbdpfccfcceiaaGreatDoor
section
open Go.RowKit Go.Maps Go.Lib
def RdL (w:World)(v:Value)(fl:List (List UInt8)):Prop:=
 ∃a cap,v = .slice a fl.length cap∧∀(i:Nat) f,fl[i]?=some f→∃(g o:Nat) (b:Option Addr) (n c gu:Nat),a=some ⟨g,o,none⟩∧w.cell? ⟨g,o+i,none⟩=some (.slice b n c)∧RdN w (.slice b n c) f gu
theorem RdL.kept {w w':World}{v:Value}{fl:List (List UInt8)}(h:RdL w v fl)(k:Kp (λ_=>False) w w'):RdL w' v fl:=by
 obtain⟨a,cap,rfl,h⟩:=h
 refine⟨a,cap,rfl,λi f hf=>?_⟩
 obtain⟨g,o,b,n,c,gu,h1,h2,h3⟩:=h i f hf
 exact⟨g,o,b,n,c,gu,h1,(k.cell (World.block_lt_of_cell? _ _ h2) (λe=>e)).trans h2,h3.kp k (λe=>e)⟩
theorem zhf.rdL {base:Nat}{w:World}{v:Value}{fl:List (List UInt8)}{lv:List Value}(h:zhf base w v fl lv):RdL w v fl:=by
 obtain⟨a,cap,e⟩:=zp h.row
 refine⟨a,cap,e,λi f hf=>?_⟩
 have hi:i<fl.length:=(List.getElem?_eq_some_iff.1 hf).1
 obtain⟨g,cap2,cur,e2,_⟩:=zib h.row (by omega)
 rw[e]at e2
 injection e2 with e2 _ _
 subst e2
 have hil:i<lv.length:=by rw[h.len];exact hi
 have hu:=List.getElem?_eq_getElem hil
 have hc:=World.ownsRow.cells h.row (g:=g) (by rw[e];rfl) i _ hu
 rw[zub]at hc
 obtain⟨gu,hr,_,_,_,b,n,c,e3⟩:=h.at_ i _ f hu hf
 rw[e3]at hc hr
 exact⟨g,0,b,n,c,gu,rfl,hc,hr⟩
theorem FR.rdL {base:Nat}{w:World}{v:Value}{fl:List (List UInt8)}{lv:List Value}(h:FR base w v fl lv):RdL w v fl:=by
 obtain⟨a,cap,e⟩:=zp h.row
 refine⟨a,cap,e,λi f hf=>?_⟩
 have hi:i<fl.length:=(List.getElem?_eq_some_iff.1 hf).1
 obtain⟨g,cap2,cur,e2,_⟩:=zib h.row (by omega)
 rw[e]at e2
 injection e2 with e2 _ _
 subst e2
 have hil:i<lv.length:=by rw[h.len];exact hi
 have hu:=List.getElem?_eq_getElem hil
 have hc:=World.ownsRow.cells h.row (g:=g) (by rw[e];rfl) i _ hu
 rw[zub]at hc
 have hb:=h.at_ i _ f hu hf
 obtain⟨gu,hr,_⟩:=hb.rdN
 obtain⟨b,c,e3⟩:=zp hb
 rw[e3]at hc hr
 exact⟨g,0,b,_,c,gu,rfl,hc,hr⟩
section
variable {R:Ending→World→Prop}{w:World}
set_option maxRecDepth 20000 in
set_option maxHeartbeats 2000000 in
theorem zlt (p:Nat)(v v':Value)(fl:List (List UInt8))(hl:fl.length≤100000)(hv:RdL w v fl)(hv':RdL w v' fl)(_hp:p<w.heap.size)
  (hB:∀w4,Kp (λ_=>False) w w4→Calls Tryz.prog 164 #[.pointer (some ⟨p,3,none⟩),v] w4 (λr w5=>r = .returned (.tuple #[])∧R (.returned (.bool true)) w5)) :
  Calls Tryz.prog 113 #[.pointer (some ⟨p,0,none⟩),v,v'] w R:=by
 have HB:=ze hB
 have HV:=ze hv
 have HV':=ze hv'
 obtain⟨a,cap,rfl,hc⟩:=hv
 obtain⟨a',cap',rfl,hc'⟩:=hv'
 have hl':(fl.length:Int)≤100000:=by omega
 clear hB hc hc'
 go_enter Tryz.func113,Tryz.ntmps113
 go_wp2_with fail
 go_loopw [7,8] (λv7 v8 wr=>∃i:Nat,i≤fl.length∧v7 = .bool true∧v8 = .int .i64 i∧Kp (λ_=>False) w wr) (λ_ v8 _=>fl.length-(intOf v8).toNat)
 case atStart=>exact⟨0,Nat.zero_le _,rfl,rfl,Kp.refl _ _⟩
 case round=>
  obtain⟨i,hile,rfl,rfl,hkp⟩:=hrel
  have HK:=ze hkp
  by_cases hin:i<fl.length
  ·have hin':(i:Int)<fl.length:=by omega
   obtain⟨f,hf⟩:∃f,fl[i]?=some f:=⟨fl[i],List.getElem?_eq_getElem hin⟩
   obtain⟨a1,c1,e1,h1⟩:=HV.out.kept hkp
   injection e1 with e1 _ ec1
   subst e1
   subst ec1
   obtain⟨a2,c2,e2,h2⟩:=HV'.out.kept hkp
   injection e2 with e2 _ ec2
   subst e2
   subst ec2
   obtain⟨g1,o1,b1,n1,k1,u1,rfl,z1,r1⟩:=h1 i f hf
   obtain⟨g2,o2,b2,n2,k2,u2,rfl,z2,r2⟩:=h2 i f hf
   have kc1:=zci (r1.kp (Kp.drew (λ_=>False) wr) (λe=>e))
   have kc2:=zci (r2.kp (Kp.drew (λ_=>False) wr) (λe=>e))
   clear h1 h2 hkp hf hin r1 r2
   go_wp2_with fail
   go_region
   all_goals go_wp2_with fail
   go_roundw
   case rel=>exact⟨i+1,by omega,by simp,by go_num,HK.out.trans (Kp.drew (λ_=>False) _) (λ_ _ e=>e)⟩
   case measure=>simp[intOf];omega
  ·have hnl:¬(i:Int)<fl.length:=by omega
   clear hkp hin hile
   go_wp2_with (first
    |(go_at_call 164;refine (HB.out _ HK.out).mono ?_;rintro r w5 ⟨rfl,hr⟩)
    |fail)
   exact hr
end
end
section
open Go.RowKit Go.Maps Go.Lib
theorem zjd {w:World}{g:Nat}{cs:Array Value}{T base e size n:Nat}{v:Value}{xs:List Value}(hg:w.heap[g]?=some (.cells cs T (0,0)))(h:w.ownsRow base e size v n xs)(he:e≠T):v.ownBlock≠some g:=λeb=>by
 rcases h.2 with ⟨rfl,rfl⟩|⟨g2,cap,cur,rfl,_,hg2,_⟩
 ·cases eb
 ·injection eb with eb
  have eb:g2=g:=eb
  rw[eb,hg]at hg2
  injection hg2 with hg2
  injection hg2 with _ hg2
  exact he hg2.symm
theorem zyv {cs:Array Value}{vL vP vK:Value}{bk bk5:BO}(h3:cs[3]?=some bk5.vB)(h4:cs[4]?=some bk5.vI)(h7:cs[7]?=some bk5.vF)(h8:cs[8]?=some bk5.vJ)(_hs:cs.size=(zcf vL vP vK bk).size)(ho:∀k,k≠3→k≠4→k≠7→k≠8→cs[k]?=(zcf vL vP vK bk)[k]?):cs=zcf vL vP vK bk5:=by
 apply Array.ext_getElem?
 intro k
 by_cases k3:k=3
 ·subst k3;rw[h3];rfl
 ·by_cases k4:k=4
  ·subst k4;rw[h4];rfl
  ·by_cases k7:k=7
   ·subst k7;rw[h7];rfl
   ·by_cases k8:k=8
    ·subst k8;rw[h8];rfl
    ·rw[ho k k3 k4 k7 k8]
     rcases Nat.lt_or_ge k 9 with hk|hk
     ·rcases (by omega:k=0∨k=1∨k=2∨k=5∨k=6) with rfl|rfl|rfl|rfl|rfl<;>rfl
     ·rw[Array.getElem?_eq_none (by simpa [zcf] using hk),Array.getElem?_eq_none (by simpa [zcf] using hk)]
section
variable {own own' own3:Nat→Lab}{i:Nat}{w w' w3 w4:World}{p nt:Nat}{ds:List (Nat × Nat)}{vL vP vK:Value}{bk:BO}
variable {R:Ending→World→Prop}
theorem zvt (h:Inv own w p ds vL vP vK bk nt)(hnt:nt<1000000)(k3:Kp (λ_=>False) w w3)(v v':Value)(fl:List (List UInt8))(lv:List Value)(hfl:fl.length≤2000)(hfs:∀f∈fl,f.length<5000000)(hv:FR w.heap.size w3 v fl lv)(hv':RdL w3 v' fl)
  (hK:∀w' own' bk',Kp (λb=>own b≠zt) w w'→(∀b,b<w.heap.size→own' b=own b)→Inv own' w' p ds vL vP vK bk' (nt+1)→R (.returned (.bool true)) w') :
  Calls Tryz.prog 113 #[.pointer (some ⟨p,0,none⟩),v,v'] w3 (λr w4=>r = .returned (.bool true)∧R (.returned (.bool true)) w4):=by
 have lp:=zh h.book.world
 refine zlt p v v' fl (by omega) hv.rdL hv' (Nat.lt_of_lt_of_le lp k3.size) (λw4 k34=>?_)
 have k4:=k3.trans k34 (λ_ _ h=>h)
 have hs4:=k4.size
 have hv4:FR w.heap.size w4 v fl lv:=hv.kept k34
 have agree:∀b,b<w.heap.size→(λb=>if b<w.heap.size then own b else (⟨1,0,0,eb⟩:Lab)) b=own b:=λb hb=>by simp[hb]
 have I:=h.same (own3:=λb=>if b<w.heap.size then own b else ⟨1,0,0,eb⟩) k4 agree
 have newlab:∀b,w.heap.size≤b→(λb=>if b<w.heap.size then own b else (⟨1,0,0,eb⟩:Lab)) b=⟨1,0,0,eb⟩:=λb hb=>by
  have:¬b<w.heap.size:=by omega
  simp[this]
 generalize (λb=>if b<w.heap.size then own b else (⟨1,0,0,eb⟩:Lab))=own1 at agree I newlab
 have vge:∀b,v.ownBlock=some b→w.heap.size≤b:=λb e=>(hv4.row.lt b e).1
 have lvb:∀{j:Nat} {u:Value},lv[j]?=some u→∃f,BR w.heap.size w4 u f:=λ{j u} hu=>by
  have hj:j<fl.length:=by rw[← hv4.len];exact (List.getElem?_eq_some_iff.1 hu).1
  exact⟨_,hv4.at_ j u _ hu (List.getElem?_eq_getElem hj)⟩
 have lvge:∀b,(∃(j:Nat) (u:Value),lv[j]?=some u∧u.ownBlock=some b)→w.heap.size≤b∧b<w4.heap.size:=λb ⟨j,u,hu,e⟩=>by
  obtain⟨f,hf⟩:=lvb hu
  exact hf.lt b e
 obtain⟨qb,hqb⟩:=I.more.fourB
 obtain⟨q,hq⟩:=I.more.fourF
 have hbk:=I.nbk
 have rB:=I.more.rowB
 have rI:=I.more.rowI
 have rF:=I.more.rowF
 have rJ:=I.more.rowJ
 rw[hqb]at rB rI
 rw[hq]at rF rJ
 refine zou p (zcf vL vP vK bk) bk.vB bk.vI bk.vF bk.vJ v qb q (bk.b.map (·.1)) (bk.b.map λq=>.int .i64 q.2.2) (bk.f.map (·.1)) (bk.f.map λq=>.int .i64 q.2.2.1) fl lv w.heap.size (by omega) (by omega) hfl hfs I.book.world rfl rfl rfl rfl rB rI rF rJ hv4 ?_ ?_ ?_
 ·intro b e e2
  have h1:=newlab b (vge b e)
  rw[I.more.ownB b e2]at h1;simp at h1
 ·intro b e e2
  have h1:=I.more.ownI b e
  rw[I.more.ownJ b e2]at h1;simp at h1
 ·intro w5 vB' vI' vF' vJ' b' v1 v2 v3 gm cs' t9 hcs rB5 rI5 hb5 hS5 hL5 rF5 rJ5 f0 f1 f2 f3 mk5 hgm hlies lB lI lF lJ nIJ
  obtain⟨hp5,x3,x4,x7,x8,xs,xo⟩:=hcs
  have s5:=t9.size
  -- labels
  have o4:∀b,b<w4.heap.size→(λb=>if b<w4.heap.size then own1 b else if vB'.ownBlock=some b then (⟨0,4,0,eb⟩:Lab) else if vI'.ownBlock=some b then ⟨0,5,0,eb⟩ else if vF'.ownBlock=some b then ⟨0,6,0,eb⟩ else if vJ'.ownBlock=some b then ⟨0,7,0,eb⟩ else ⟨1,0,0,eb⟩) b=own1 b:=λb hb=>by simp[hb]
  have oN:∀b,w4.heap.size≤b→(λb=>if b<w4.heap.size then own1 b else if vB'.ownBlock=some b then (⟨0,4,0,eb⟩:Lab) else if vI'.ownBlock=some b then ⟨0,5,0,eb⟩ else if vF'.ownBlock=some b then ⟨0,6,0,eb⟩ else if vJ'.ownBlock=some b then ⟨0,7,0,eb⟩ else ⟨1,0,0,eb⟩) b=if vB'.ownBlock=some b then (⟨0,4,0,eb⟩:Lab) else if vI'.ownBlock=some b then ⟨0,5,0,eb⟩ else if vF'.ownBlock=some b then ⟨0,6,0,eb⟩ else if vJ'.ownBlock=some b then ⟨0,7,0,eb⟩ else ⟨1,0,0,eb⟩:=λb hb=>by
   have:¬b<w4.heap.size:=by omega
   simp[this]
  generalize (λb=>if b<w4.heap.size then own1 b else if vB'.ownBlock=some b then (⟨0,4,0,eb⟩:Lab) else if vI'.ownBlock=some b then ⟨0,5,0,eb⟩ else if vF'.ownBlock=some b then ⟨0,6,0,eb⟩ else if vJ'.ownBlock=some b then ⟨0,7,0,eb⟩ else ⟨1,0,0,eb⟩)=own5 at o4 oN
  -- what stays
  have T:∀b,b<w.heap.size→own b≠⟨0,0,0,eb⟩→own b≠⟨0,4,0,eb⟩→own b≠⟨0,5,0,eb⟩→own b≠⟨0,6,0,eb⟩→own b≠⟨0,7,0,eb⟩→w5.heap[b]?=w.heap[b]?:=λb hb h0 h4 h5 h6 h7=>(t9.block b (by omega) (λe=>by
   rw[← agree b hb]at h0 h4 h5 h6 h7
   rcases e with e|e|e|e|e|e|e
   ·exact h0 (by rw[e];exact I.book.ownP)
   ·exact h4 (I.more.ownB b e)
   ·exact h5 (I.more.ownI b e)
   ·exact h6 (I.more.ownF b e)
   ·exact h7 (I.more.ownJ b e)
   ·have:=vge b e;omega
   ·have:=(lvge b e).1;omega)).trans (k4.block b hb (λe=>e))
  have A:∀b,b<w.heap.size→own5 b=own b:=λb hb=>(o4 b (by omega)).trans (agree b hb)
  have one:∀b,w.heap.size≤b→vB'.ownBlock≠some b→vI'.ownBlock≠some b→vF'.ownBlock≠some b→vJ'.ownBlock≠some b→(own5 b).c=1:=λb hb n1 n2 n3 n4=>by
   by_cases hlt:b<w4.heap.size
   ·rw[o4 b hlt,newlab b hb]
   ·rw[oN b (by omega),if_neg n1,if_neg n2,if_neg n3,if_neg n4]
  have ne1:∀{b:Nat} {l:Lab},(own b).c=1→l.c=0→own b≠l:=λh1 h2 e=>by rw[e,h2]at h1;cases h1
  have neB:∀{b:Nat},BqL (own b)→False∨True:=λ_=>Or.inr trivial
  clear neB
  refine⟨rfl,rfl,hK w5 own5 { bk with vB:=vB',vI:=vI',b:=bk.b++b',vF:=vF',vJ:=vJ',f:=bk.f++[(v,fl.length,(q:Int)+1,gm),(v1,fl.length+1,(q:Int)+1,gm),(v2,fl.length+2,(q:Int)+1,gm),(v3,fl.length+3,(q:Int)+1,gm)] } ?_ A ?_⟩
  ·refine (k4.mono (S':=λb=>own b≠zt) (λ_ _ h=>h.elim)).trans t9 (λb hb e=>?_)
   show own b≠zt
   rw[← agree b hb]
   rcases e with e|e|e|e|e|e|e
   ·rw[e,I.book.ownP];simp[zt]
   ·rw[I.more.ownB b e];simp[zt]
   ·rw[I.more.ownI b e];simp[zt]
   ·rw[I.more.ownF b e];simp[zt]
   ·rw[I.more.ownJ b e];simp[zt]
   ·have:=vge b e;omega
   ·have:=(lvge b e).1;omega
  ·have B:=h.book
   have T1:∀b,b<w.heap.size→(own b).c=1→w5.heap[b]?=w.heap[b]?:=λb hb h1=>T b hb (ne1 h1 rfl) (ne1 h1 rfl) (ne1 h1 rfl) (ne1 h1 rfl) (ne1 h1 rfl)
   have TL:∀b,b<w.heap.size→∀{l:Lab},own b=l→l≠⟨0,0,0,eb⟩→l≠⟨0,4,0,eb⟩→l≠⟨0,5,0,eb⟩→l≠⟨0,6,0,eb⟩→l≠⟨0,7,0,eb⟩→w5.heap[b]?=w.heap[b]?:=λb hb l e h0 h4 h5 h6 h7=>T b hb (by rw[e];exact h0) (by rw[e];exact h4) (by rw[e];exact h5) (by rw[e];exact h6) (by rw[e];exact h7)
   have T9:∀b,b<w.heap.size→own b=zt→w5.heap[b]?=w.heap[b]?:=λb hb e=>TL b hb e (by simp[zt]) (by simp[zt]) (by simp[zt]) (by simp[zt]) (by simp[zt])
   refine⟨⟨(A p lp).trans B.ownP,?_,?_,?_,?_,?_,B.four,?_,?_,B.num⟩,?_,?_,?_,by have:=h.nds;omega,?_,h.tab.block (T9 0 h.tab.lt.1 h.tabO.1) (T9 1 h.tab.lt.2 h.tabO.2),⟨(A 0 h.tab.lt.1).trans h.tabO.1,(A 1 h.tab.lt.2).trans h.tabO.2⟩,?_⟩
   ·rw[hp5]
    congr 2
    exact zyv x3 x4 x7 x8 xs xo
   ·exact zl B.rowP (λb e=>TL b (B.rowP.lt b e).2 (B.ownQ b e) (by simp) (by simp) (by simp) (by simp) (by simp))
   ·exact λb e=>(A b (B.rowP.lt b e).2).trans (B.ownQ b e)
   ·exact zl B.rowK (λb e=>TL b (B.rowK.lt b e).2 (B.ownK b e) (by simp) (by simp) (by simp) (by simp) (by simp))
   ·exact λb e=>(A b (B.rowK.lt b e).2).trans (B.ownK b e)
   ·exact λu hu=>zl (B.lists u hu) (λb e=>T1 b ((B.lists u hu).lt b e).2 (B.ownR u hu b e))
   ·exact λu hu b e=>by rw[A b ((B.lists u hu).lt b e).2];exact B.ownR u hu b e
   ·exact zl h.rowL (λb e=>TL b (h.rowL.lt b e).2 (h.ownL b e) (by simp) (by simp) (by simp) (by simp) (by simp))
   ·exact λb e=>(A b (h.rowL.lt b e).2).trans (h.ownL b e)
   ·intro j hj
    refine ((h.duos j hj).frame (λb hb hc=>?_) (λb hb _=>A b hb)).mono (by omega)
    rcases hc with hc|hc
    ·have nz:∀l:Lab,l.c=0→own b≠l:=λl hl e=>by
      unfold Cap at hc
      rw[e,hl]at hc
      rcases hc with hc|hc<;>omega
     exact T b hb (nz _ rfl) (nz _ rfl) (nz _ rfl) (nz _ rfl) (nz _ rfl)
    ·exact T9 b hb hc
   ·refine⟨by have:=hbk.1;dsimp only;omega,?_,?_⟩
    ·dsimp only
     rw[List.length_append,hb5]
     omega
    ·dsimp only
     rw[List.length_append,hq]
     simp
     omega
   ·have M:=h.more
    have e1:∀e∈b',∀b,e.1.ownBlock=some b→(own5 b).c=1:=λe he b hb=>by
     have hge:w.heap.size≤b:=(hL5 e he b hb).elim (λh=>(lvge b h).1) (λh=>by omega)
     obtain⟨a1,_⟩:=hS5 e he
     exact one b hge (λe2=>z7 a1 rB5 (by decide) b hb e2) (λe2=>z7 a1 rI5 (by decide) b hb e2) (λe2=>z7 a1 rF5 (by decide) b hb e2) (λe2=>z7 a1 rJ5 (by decide) b hb e2)
    have e2:∀x {n:Nat} {xs:List Value},w5.ownsRow 0 48 1 x n xs→(x=v∨x=v1∨x=v2∨x=v3)→∀b,x.ownBlock=some b→(own5 b).c=1:=λx n xs hx hxx b hb=>by
     have hge:w.heap.size≤b∧vB'.ownBlock≠some b:=by
      rcases hxx with rfl|hxx
      ·refine⟨vge b hb,λe=>?_⟩
       have hlt:=(hv4.row.lt b hb).2
       rcases lB b e with h1|h1
       ·have h2:=newlab b (vge b hb)
        rw[I.more.ownB b h1]at h2;simp at h2
       ·omega
      ·obtain⟨h1,h2⟩:=hlies x hxx b hb
       exact⟨h1.elim (λh=>vge b h) (λh=>by omega),h2⟩
     exact one b hge.1 hge.2 (λe2=>z7 hx rI5 (by decide) b hb e2) (λe2=>z7 hx rF5 (by decide) b hb e2) (λe2=>z7 hx rJ5 (by decide) b hb e2)
    have gm1:(own5 gm).c=1:=one gm (by omega) (zjd mk5 rB5 (by decide)) (zjd mk5 rI5 (by decide)) (zjd mk5 rF5 (by decide)) (zjd mk5 rJ5 (by decide))
    refine⟨?_,?_,?_,?_,⟨qb+fl.length,?_⟩,?_,?_,?_,?_,?_,?_,?_,⟨q+1,?_⟩,?_,?_,?_,?_⟩
    ·dsimp only
     rw[List.length_append,hqb,hb5,List.map_append,show 4*qb+4*fl.length=4*(qb+fl.length) by omega]
     exact rB5
    ·intro b e
     by_cases hlt:b<w4.heap.size
     ·rw[o4 b hlt]
      exact I.more.ownB b ((lB b e).elim id (λh=>by omega))
     ·rw[oN b (by omega),if_pos e]
    ·dsimp only
     rw[List.length_append,hqb,hb5,List.map_append,show 4*qb+4*fl.length=4*(qb+fl.length) by omega]
     exact rI5
    ·intro b e
     by_cases hlt:b<w4.heap.size
     ·rw[o4 b hlt]
      exact I.more.ownI b ((lI b e).elim id (λh=>by omega))
     ·rw[oN b (by omega),if_neg (λe2=>z7 rB5 rI5 (by decide) b e2 e),if_pos e]
    ·dsimp only
     rw[List.length_append,hqb,hb5];omega
    ·intro u hu
     rcases List.mem_append.1 hu with h1|h1
     ·exact zl (M.listsB u h1) (λb e=>T1 b ((M.listsB u h1).lt b e).2 (M.ownRB u h1 b e))
     ·exact (hS5 u h1).1
    ·intro u hu b e
     rcases List.mem_append.1 hu with h1|h1
     ·rw[A b ((M.listsB u h1).lt b e).2];exact M.ownRB u h1 b e
     ·exact e1 u h1 b e
    ·intro u hu
     rcases List.mem_append.1 hu with h1|h1
     ·exact M.numB u h1
     ·exact (hS5 u h1).2
    ·dsimp only
     rw[List.length_append,hq,List.map_append]
     exact rF5
    ·intro b e
     by_cases hlt:b<w4.heap.size
     ·rw[o4 b hlt]
      exact I.more.ownF b ((lF b e).elim id (λh=>by omega))
     ·rw[oN b (by omega),if_neg (λe2=>z7 rB5 rF5 (by decide) b e2 e),if_neg (λe2=>z7 rI5 rF5 (by decide) b e2 e),if_pos e]
    ·dsimp only
     rw[List.length_append,hq,List.map_append]
     exact rJ5
    ·intro b e
     by_cases hlt:b<w4.heap.size
     ·rw[o4 b hlt]
      exact I.more.ownJ b ((lJ b e).elim id (λh=>by omega))
     ·rw[oN b (by omega),if_neg (λe2=>z7 rB5 rJ5 (by decide) b e2 e),if_neg (λe2=>nIJ b e2 e),if_neg (λe2=>z7 rF5 rJ5 (by decide) b e2 e),if_pos e]
    ·dsimp only
     rw[List.length_append,hq];simp;omega
    ·intro u hu
     rcases List.mem_append.1 hu with h1|h1
     ·exact zl (M.listsF u h1) (λb e=>T1 b ((M.listsF u h1).lt b e).2 (M.ownRF u h1 b e))
     ·simp only[List.mem_cons,List.not_mem_nil,or_false]at h1
      rcases h1 with rfl|rfl|rfl|rfl
      ·exact f0
      ·exact f1
      ·exact f2
      ·exact f3
    ·intro u hu b e
     rcases List.mem_append.1 hu with h1|h1
     ·rw[A b ((M.listsF u h1).lt b e).2];exact M.ownRF u h1 b e
     ·simp only[List.mem_cons,List.not_mem_nil,or_false]at h1
      rcases h1 with rfl|rfl|rfl|rfl
      ·exact e2 v f0 (Or.inl rfl) b e
      ·exact e2 v1 f1 (Or.inr (Or.inl rfl)) b e
      ·exact e2 v2 f2 (Or.inr (Or.inr (Or.inl rfl))) b e
      ·exact e2 v3 f3 (Or.inr (Or.inr (Or.inr rfl))) b e
    ·intro u hu
     rcases List.mem_append.1 hu with h1|h1
     ·obtain⟨a1,a2⟩:=M.markF u h1
      have hl:=zh a1
      exact⟨(T1 _ hl a2).trans a1,by rw[A _ hl];exact a2⟩
     ·simp only[List.mem_cons,List.not_mem_nil,or_false]at h1
      rcases h1 with rfl|rfl|rfl|rfl<;>exact⟨mk5,gm1⟩
    ·intro u hu
     rcases List.mem_append.1 hu with h1|h1
     ·exact M.numF u h1
     ·simp only[List.mem_cons,List.not_mem_nil,or_false]at h1
      rcases h1 with rfl|rfl|rfl|rfl<;>(refine⟨?_,?_,?_⟩<;>dsimp only<;>omega)
end
end
section
open Go.RowKit
section
variable {R:Ending→World→Prop}
set_option maxRecDepth 20000 in
set_option maxHeartbeats 1000000 in
theorem zgx (w:World)(p px py:Nat)(e a b:Int)(s t:ByteArray)(vl vm:Value)
  (hX:Calls Tryz.prog 14 #[.pointer (some ⟨px,0,none⟩)] (zeb w px py 16 e a b s t vl vm) (λr w2=>r = .returned (.tuple #[])∧Kp (λb=>b<w.heap.size) (zeb w px py 16 e a b s t vl vm) w2∧
   Calls Tryz.prog 115 #[.pointer (some ⟨py,0,none⟩)] w2 (λr' w3=>r' = .returned (.tuple #[])∧R (.returned (.bool true)) w3))) :
  Calls Tryz.prog 63 #[.pointer (some ⟨p,0,none⟩),zjb px py,zkb 16 e a b s t vl vm] w R:=by
 unfold zeb at hX
 have HX:=ze hX
 unfold zjb zkb
 clear hX
 go_enter Tryz.func63,Tryz.ntmps63
 go_wp2_with (first
  |(go_at_call 14;refine HX.out.mono ?_;rintro r w2 ⟨rfl,hk,hy⟩;have HY:=ze hy;have q1:=zg (z7c hk) 1;clear hy hk)
  |(go_at_call 115;refine HY.out.mono ?_;rintro r w3 ⟨rfl,hr⟩)
  |fail)
 exact hr
set_option maxRecDepth 20000 in
set_option maxHeartbeats 1000000 in
theorem zbv (w:World)(p px py:Nat)(e a b:Int)(s t:ByteArray)(vl vm:Value)
  (hX:Calls Tryz.prog 20 #[.pointer (some ⟨px,0,none⟩)] (zeb w px py 15 e a b s t vl vm) (λr w2=>∃v vG,r = .returned v∧Kp (λb=>b<w.heap.size) (zeb w px py 15 e a b s t vl vm) w2∧w2.cell? ⟨py,4,none⟩=some vG∧
   Calls Tryz.prog 114 #[vG] w2 (λr' w3=>∃v',r' = .returned v'∧Calls Tryz.prog 113 #[.pointer (some ⟨p,0,none⟩),v,v'] w3 (λr w4=>r = .returned (.bool true)∧R (.returned (.bool true)) w4)))) :
  Calls Tryz.prog 63 #[.pointer (some ⟨p,0,none⟩),zjb px py,zkb 15 e a b s t vl vm] w R:=by
 unfold zeb at hX
 have HX:=ze hX
 unfold zjb zkb
 clear hX
 go_enter Tryz.func63,Tryz.ntmps63
 go_wp2_with (first
  |(go_at_call 20;refine HX.out.mono ?_;rintro r w2 ⟨v,vG,rfl,hk,hG,hy⟩;have HY:=ze hy;have q1:=zg (z7c hk) 1;clear hy hk)
  |(go_at_call 114;refine HY.out.mono ?_;rintro r w3 ⟨v',rfl,hf⟩;have HF:=ze hf;clear hf)
  |(go_at_call 113;refine HF.out.mono ?_;rintro r w4 ⟨rfl,hr⟩)
  |fail)
 exact hr
set_option maxRecDepth 20000 in
set_option maxHeartbeats 1000000 in
theorem zav (w:World)(p px py:Nat)(e a b:Int)(s t:ByteArray)(vl vm:Value)
  (hX:Calls Tryz.prog 17 #[.pointer (some ⟨px,0,none⟩),.int .i64 a] (zeb w px py 17 e a b s t vl vm) (λr w2=>∃v,r = .returned v∧Kp (λb=>b<w.heap.size) (zeb w px py 17 e a b s t vl vm) w2∧
   Calls Tryz.prog 116 #[.pointer (some ⟨py,0,none⟩),.int .i64 a] w2 (λr' w3=>∃v',r' = .returned v'∧Calls Tryz.prog 113 #[.pointer (some ⟨p,0,none⟩),v,v'] w3 (λr w4=>r = .returned (.bool true)∧R (.returned (.bool true)) w4)))) :
  Calls Tryz.prog 63 #[.pointer (some ⟨p,0,none⟩),zjb px py,zkb 17 e a b s t vl vm] w R:=by
 unfold zeb at hX
 have HX:=ze hX
 unfold zjb zkb
 clear hX
 go_enter Tryz.func63,Tryz.ntmps63
 go_wp2_with (first
  |(go_at_call 17;refine HX.out.mono ?_;rintro r w2 ⟨v,rfl,hk,hy⟩;have HY:=ze hy;have q1:=zg (z7c hk) 1;have q12:=zg (zbc hk) 2;clear hy hk)
  |(go_at_call 116;refine HY.out.mono ?_;rintro r w3 ⟨v',rfl,hf⟩;have HF:=ze hf;clear hf)
  |(go_at_call 113;refine HF.out.mono ?_;rintro r w4 ⟨rfl,hr⟩)
  |fail)
 exact hr
set_option maxRecDepth 20000 in
set_option maxHeartbeats 1000000 in
theorem zex (w:World)(p px py:Nat)(e a b:Int)(hb:-9223372036854775808≤b∧b≤9223372036854775807)(s t:ByteArray)(vl vm:Value)
  (hX:Calls Tryz.prog 116 #[.pointer (some ⟨py,0,none⟩),.int .i64 a] (zeb w px py 19 e a b s t vl vm) (λr w2=>∃v,r = .returned v∧Kp (λb=>b<w.heap.size) (zeb w px py 19 e a b s t vl vm) w2∧
   Calls Tryz.prog 57 #[.pointer (some ⟨p,0,none⟩),v] w2 (λr w4=>r = .returned (.bool true)∧R (.returned (.bool true)) w4)∧
   ∀x:Int,z0b b 4=0→-9223372036854775808≤x∧x≤9223372036854775807→Calls Tryz.prog 117 #[v,.int .i64 x] w2 (λr' w3=>∃v',r' = .returned v'∧Calls Tryz.prog 57 #[.pointer (some ⟨p,0,none⟩),v'] w3 (λr w4=>r = .returned (.bool true)∧R (.returned (.bool true)) w4)))) :
  Calls Tryz.prog 63 #[.pointer (some ⟨p,0,none⟩),zjb px py,zkb 19 e a b s t vl vm] w R:=by
 unfold zeb at hX
 have HX:=ze hX
 have HB:=ze hb
 unfold zjb zkb
 clear hX
 have hpl:=zug b 4 (by omega)
 have HDIV:Hid (-9223372036854775808≤b.tdiv 4∧b.tdiv 4≤9223372036854775807):=by
  show _∧_
  rcases Int.lt_or_le b 0 with h|h
  ·obtain⟨m,rfl⟩:∃m:Nat,b = -(m:Int):=⟨(-b).toNat,by omega⟩
   rw[Int.neg_tdiv]
   have:(m:Int).tdiv 4=(m:Int) / 4:=Int.tdiv_eq_ediv_of_nonneg (by omega)
   omega
  ·rw[Int.tdiv_eq_ediv_of_nonneg h]
   omega
 by_cases q:z0b b 4=0
 ·have HQ0:=ze q
  have q':((z0b b 4:Nat):Int)=0:=by omega
  have q2:(((z0b b 4:Nat):Int) == 0)=true:=by simp[q]
  go_enter Tryz.func63,Tryz.ntmps63
  go_wp2_with (first
   |(go_at_call 116;refine HX.out.mono ?_;rintro r w2 ⟨v,rfl,hk,h0,hy⟩;have HY:=ze hy;have q13:=zg (zbc hk) 3;clear hy hk h0)
   |(go_at_call 60;refine znf b 4 _ HB.out (by omega) (by omega) ?_)
   |(go_at_call 117;refine (HY.out _ HQ0.out ?_).mono ?_;(exact HDIV.out);rintro r w3 ⟨v',rfl,hf⟩;have HF:=ze hf;clear hf)
   |(go_at_call 57;refine HF.out.mono ?_;rintro r w4 ⟨rfl,hr⟩)
   |fail)
  exact hr
 ·have q':¬((z0b b 4:Nat):Int)=0:=by omega
  have q2:(((z0b b 4:Nat):Int) == 0)=false:=by simpa using q
  go_enter Tryz.func63,Tryz.ntmps63
  go_wp2_with (first
   |(go_at_call 116;refine HX.out.mono ?_;rintro r w2 ⟨v,rfl,hk,h0,hy⟩;have HF:=ze h0;have q13:=zg (zbc hk) 3;clear hy hk h0)
   |(go_at_call 60;refine znf b 4 _ HB.out (by omega) (by omega) ?_)
   |(go_at_call 57;refine HF.out.mono ?_;rintro r w4 ⟨rfl,hr⟩)
   |fail)
  exact hr
end
end
section
open Go.RowKit Go.Maps Go.Lib
theorem zlq {k T:Nat}{ws:List W3}(h:zdg k ws):(z9h k T ws).length≤400∧z9h k T ws≠[]:=by
 rcases h with ⟨rfl,rfl⟩|⟨rfl,_,_,h2,h3⟩
 ·exact⟨by show (zxb T).length≤400;rw[z6e];omega,by simp[z9h,zxb]⟩
 ·exact⟨z7j h3 h2,by simp[z9h,zbb]⟩
section
variable {own own':Nat→Lab}{c:Nat}{w w':World}{p:Nat}{y:YS}
variable {R:Ending→World→Prop}
theorem ztt (h:YE own c w p y)(hi:YI y)(hc:c≠0)(h9:∀b,w.heap.size≤b→own b=zt)(k T:Nat)(ws:List W3)(hr:zdg k ws)(hT:T<4294967296)(hT2:k=67→1≤T∧T≤2000)(pW:Option Addr)(cW base:Nat)
  (hrow:w.ownsRow base 193 4 (.slice pW ws.length cW) ws.length (zo (ws.map (toY T)))) (hrc:∀b,(Value.slice pW ws.length cW).ownBlock=some b→(own b).c≠c) (pb:Option Addr) (nb cb gb:Nat) (hbp:(own gb).c≠c) (hb:RdN w (.slice pb nb cb) (z9h k T ws) gb)
  (h1:¬ztg y.hor y.now ⟨k,T,ws⟩→∀w',Kp (λ_=>False) w w'→R (.returned (.bool false)) w')
  (h2:ztg y.hor y.now ⟨k,T,ws⟩→∀w' own',Kp (λb=>(own b).c=c) w w'→(∀b,b<w.heap.size→own' b=own b)→YE own' c w' p (didY y ⟨k,T,ws⟩)→R (.returned (.bool true)) w') :
  Calls Tryz.prog 196 #[.pointer (some ⟨p,0,none⟩),.agg #[.bool (decide (k=72)),.int .i64 (T:Nat),.slice pW ws.length cW,.slice pb nb cb]] w R:=by
 obtain⟨vL,vT,vG,sv,lg,Y,hl,hg⟩:=h
 have n1:=hi.now
 have n2:=hi.hor
 have n3:=hi.len
 have hgp:gb≠p:=λe=>hbp (by rw[e,Y.ownP])
 have nine:∀{x:Value} {w2:World} {body:List UInt8} {o2:Nat→Lab},BR w.heap.size w2 x body→(∀g,x.ownBlock=some g→o2 g=own g)→∀g,x.ownBlock=some g→o2 g=zt:=λhb2 ho g e=>(ho g e).trans (h9 g (hb2.lt g e).1)
 have hr0:=hr
 rcases hr with ⟨rfl,rfl⟩|⟨rfl,hpw,hl1,hl2,hok⟩
 ·refine z7y Y (by omega) T hT _ _ ⟨_,_,_,rfl⟩ ⟨_,_,_,rfl⟩ gb hgp hb (λhn w' k'=>h1 (λhm=>?_) w' k') (λm1 m2 w' own' vG' x k' a' Y' hb' ho'=>h2 (Or.inl ⟨rfl,m1,m2⟩) w' own' k' a' ?_)
  ·rcases hm with ⟨_,m1,m2⟩|⟨m0,_⟩
   ·exact hn ⟨m1,m2⟩
   ·exact m0 rfl
  ·refine⟨vL,vT,vG',sv,lg++[x],Y',?_,?_⟩
   ·show ((lg++[x]).length:Int)≤y.now+(T:Int)
    rw[List.length_append]
    simp
    omega
   ·exact (hg.past k' a' hc).snoc (hb'.mono (Nat.zero_le _)) (nine hb' ho')
 ·have hT3:=hT2 rfl
  refine z6y Y (by omega) (by omega) n1 T hT ws (λe=>by rw[e]at hl1;simp at hl1) hl2 pW cW base hrow hrc _ ⟨_,_,_,rfl⟩ gb hbp hb (zlq (T:=T) hr0).1 (λhn w' k'=>h1 (λhm=>?_) w' k') (λm1 w' own' vL' vG' x k' a' Y' hb' ho'=>h2 (Or.inr ⟨by show (67:Nat)≠72;decide,m1,by omega⟩) w' own' k' a' ?_)
  ·rcases hm with ⟨m0,_⟩|⟨_,m1,_⟩
   ·cases m0
   ·exact hn m1
  ·refine⟨vL',vT,vG',sv,lg++[x],Y',?_,?_⟩
   ·show ((lg++[x]).length:Int)≤(T:Int)+y.hor
    rw[List.length_append]
    simp
    omega
   ·exact (hg.past k' a' hc).snoc (hb'.mono (Nat.zero_le _)) (nine hb' ho')
end
def zqm:Lab:=⟨0,8,0,eb⟩
def zll (own:Nat→Lab)(n b:Nat):Lab:=if b=n then zqm else zmc own n b
theorem zqo {own:Nat→Lab}{n b:Nat}(h:b<n):zll own n b=own b:=by
 unfold zll
 rw[if_neg (by omega),zrb h]
theorem zjq {own:Nat→Lab}(n:Nat):zll own n n=zqm:=by simp[zll]
structure z5e (own:Nat→Lab)(c:Nat)(w:World)(p:Nat)(y:YS)(bs:List UInt8)(num g:Nat)(v:Value)(i:Nat)(ok:Bool)(wr:World)(own':Nat→Lab)(y':YS)(t:TS)(L:List Rc)(rest:List UInt8):Prop where
 ye:YE own' c wr p y'
 yi:YI y'
 no:y'.txs=[]
 tk:znb wr w.heap.size t v g
 kp:Kp (λb=>(own b).c=c) w wr
 old:∀b,b<w.heap.size→own' b=own b
 nine:own' w.heap.size=zqm
 going:ok=true→Has t rest∧t.B=bs∧z6d bs=some num∧zvf (bs.drop 11) y L rest y'∧L.length=i
 over:ok=false→zxd bs num y y' false
theorem zg2 {bs:List UInt8}{y:YS}(hi:YI y)(h:∀k T ws m,zfc bs k T ws m→k=67∧¬(1≤T∧T≤2000)):Stop bs y:=λk T ws m hc hm=>by
 obtain⟨rfl,h2⟩:=h k T ws m hc
 have:=hi.now
 rcases hm with ⟨m0,_⟩|⟨_,m1,m2⟩
 ·cases m0
 ·exact h2 ⟨by dsimp only at m1;omega,by dsimp only at m1;omega⟩
theorem zgp {bs m:List UInt8}{num:Nat}{y y':YS}{L:List Rc}(hc:z6d bs=some num)(hp:zvf (bs.drop 11) y L m y')(hl:L.length<4)(hs:Stop m y'):zxd bs num y y' false:=
 Or.inr ⟨hc,L,m,hp,by omega,λ_=>hs,by have:decide (L.length=4)=false:=(by simp;omega);rw[this,Bool.and_false]⟩
section
variable {own own' own1 own3:Nat→Lab}{c:Nat}{w wr w1 w2 w3:World}{p:Nat}{y y':YS}{bs rest m:List UInt8}{num g i:Nat}{v:Value}{t t1:TS}{L:List Rc}
theorem zpo {n:Nat}(h:YE own c w p y)(h8:own n=zqm)(hc:c≠0)(k:Kp (λb=>b=n) w w1):YE own c w1 p y:=
 h.frame (λb hb e=>k.block b hb (λ(e2:b=n)=>by
  rw[e2,h8]at e
  rcases e with e|e
  ·exact hc e.symm
  ·simp[zqm,zt]at e)) (λ_ _ _=>rfl)
theorem z4j (h:YE own c w p y)(k:Kp (λ_=>False) w w1)(ho:∀b,b<w.heap.size→own1 b=own b):YE own1 c w1 p y:=
 h.frame (λb hb _=>k.block b hb (λe=>e)) (λb hb _=>ho b hb)
theorem z5e.size {ok:Bool}(h:z5e own c w p y bs num g v i ok wr own' y' t L rest):w.heap.size<wr.heap.size:=zh h.tk.blk
theorem z5e.none (h:z5e own c w p y bs num g v i true wr own' y' t L rest)(hi:i<4)(hc:c≠0)(_hg:g<w.heap.size)(hno:∀k T ws m,zfc rest k T ws m→k=67∧¬(1≤T∧T≤2000))(ht:znb w1 w.heap.size t1 v g)(hk:Kp (λb=>b=w.heap.size) wr w1)(hk2:Kp (λ_=>False) w1 w2) :
  z5e own c w p y bs num g v (i+1) false w2 own' y' t1 L rest:=by
 obtain⟨g1,g2,g3,g4,g5⟩:=h.going rfl
 refine⟨z4j (zpo h.ye h.nine hc hk) hk2 (λ_ _=>rfl),h.yi,h.no,ht.kp hk2 (λe=>e) (λe=>e),(h.kp.trans hk (λb hb e=>by omega)).trans hk2 (λb _ e=>e.elim),h.old,h.nine,λe=>(by cases e),λ_=>zgp g3 g4 (by omega) (zg2 h.yi hno)⟩
theorem z5e.refused (h:z5e own c w p y bs num g v i true wr own' y' t L rest)(hi:i<4)(hc:c≠0)(_hg:g<w.heap.size){k T:Nat}{ws:List W3}(hcut:zfc rest k T ws m)(hm:¬ztg y'.hor y'.now ⟨k,T,ws⟩)(ht:znb w1 w.heap.size t1 v g)(hk:Kp (λb=>b=w.heap.size) wr w1)(hk2:Kp (λ_=>False) w1 w2) :
  z5e own c w p y bs num g v (i+1) false w2 own' y' t1 L rest:=by
 obtain⟨g1,g2,g3,g4,g5⟩:=h.going rfl
 refine⟨z4j (zpo h.ye h.nine hc hk) hk2 (λ_ _=>rfl),h.yi,h.no,ht.kp hk2 (λe=>e) (λe=>e),(h.kp.trans hk (λb hb e=>by omega)).trans hk2 (λb _ e=>e.elim),h.old,h.nine,λe=>(by cases e),λ_=>zgp g3 g4 (by omega) (λk' T' ws' m' hc' hm'=>?_)⟩
 obtain⟨e1,e2,e3,_⟩:=hcut.uniq hc'
 subst e1 e2 e3
 exact hm hm'
theorem z5e.taken (h:z5e own c w p y bs num g v i true wr own' y' t L rest)(hc:c≠0)(hg:g<w.heap.size)(hgc:(own g).c≠c){k T:Nat}{ws:List W3}(hr:zdg k ws)(hcut:zfc rest k T ws m)(hm:ztg y'.hor y'.now ⟨k,T,ws⟩)(hh:Has t1 m)(hB:t1.B=t.B)(ht:znb w1 w.heap.size t1 v g)(hk:Kp (λb=>b=w.heap.size) wr w1)(hk2:Kp (λ_=>False) w1 w2)
  (hk3:Kp (λb=>(zmc own' wr.heap.size b).c=c) w2 w3) (ho3:∀b,b<w2.heap.size→own3 b=zmc own' wr.heap.size b) (hy:YE own3 c w3 p (didY y' ⟨k,T,ws⟩)) :
  z5e own c w p y bs num g v (i+1) true w3 own3 (didY y' ⟨k,T,ws⟩) t1 (L++[⟨k,T,ws⟩]) m:=by
 obtain⟨g1,g2,g3,g4,g5⟩:=h.going rfl
 obtain⟨a,b⟩:=h.yi.didY h.no (r:=⟨k,T,ws⟩) hr hm
 have hs:=h.size
 have s1:=hk.size
 have s2:=hk2.size
 have o3:∀b,b<wr.heap.size→own3 b=own' b:=λb hb=>(ho3 b (by omega)).trans (zrb hb)
 refine⟨hy,a,b,?_,?_,λb hb=>(o3 b (by omega)).trans (h.old b hb),(o3 _ hs).trans h.nine,λ_=>⟨hh,hB.trans g2,g3,g4.snoc hcut hm,by rw[List.length_append,g5];rfl⟩,λe=>by cases e⟩
 ·refine (ht.kp hk2 (λe=>e) (λe=>e)).kp hk3 ?_ ?_
  ·rw[zrb hs,h.nine]
   exact λe=>hc e.symm
  ·rw[zrb (by omega),h.old g hg]
   exact hgc
 ·refine ((h.kp.trans hk (λb hb e=>by omega)).trans hk2 (λb _ e=>e.elim)).trans hk3 (λb hb e=>?_)
  rw[zrb (by omega),h.old b hb]at e
  exact e
end
end
end Go.Proofs.YthbdpfccfcceiaaGreatDoor
