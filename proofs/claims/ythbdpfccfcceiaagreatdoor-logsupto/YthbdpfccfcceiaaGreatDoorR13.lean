/-
  Of the proof of logsUpto_card.
-/
import Derived.Test.YthbdpfccfcceiaaGreatDoorJ1x
import Derived.Deep.RegionHeld3
namespace Go.Proofs.YthbdpfccfcceiaaGreatDoor
open Go.RowKit
def zgj (s:YS)(n:Int):YS:={ s with now:=n }
def zzb (l:List YV)(n:Int)(k:ByteArray):Option YV:=((zyb l k).bind λi=>l[i]?).map λy=>{ y with t:=n }
def zhn (s:YS)(j:Nat)(hj:j<s.txs.length)(ks:List ByteArray):YS:={ s with l:=s.l++ks.filterMap (zzb (s.txs[j]).l (s.now+1)),now:=s.now+1,txs:=(zqc s j hj).txs,lg:=s.lg++[zbb (s.now+1).toNat ((ks.filterMap (zzb (s.txs[j]).l (s.now+1))).map toW)] }
def zbq:ByteArray:=⟨#[126]⟩
section
variable {own own':Nat→Lab}{c:Nat}{w w':World}{p:Nat}{s:YS}{vL vT vG:Value}{sv lg:List Value}
variable {R:Ending→World→Prop}
theorem YR.tick (h:YR own c w p s vL vT vG sv lg)(n:Int):YR own c (w.setCell ⟨p,2,none⟩ (.int .i64 n)) p (zgj s n) vL vT vG sv lg:=by
 have hb:∀b,b≠p→(w.setCell ⟨p,2,none⟩ (.int .i64 n)).heap[b]?=w.heap[b]?:=λb hb=>Below.heap_setCell w _ _ b hb
 refine⟨h.ownP,?_,?_,h.ownL,h.len,?_,h.ownT,λi hi hj=>?_,h.ownX,?_,h.ownG⟩
 ·rw[zq h.store];simp[zgj]
 ·exact zl h.rowL (λb e=>hb b (zpb (own:=own) (by rw[h.ownL b e,h.ownP];simp)))
 ·exact zl h.rowT (λb e=>hb b (zpb (own:=own) (by rw[h.ownT b e,h.ownP];simp)))
 ·exact zl (h.rowX i hi hj) (λb e=>hb b (zpb (own:=own) (by rw[h.ownX i hj b e,h.ownP];simp)))
 ·exact zl h.rowG (λb e=>hb b (zpb (own:=own) (by rw[h.ownG b e,h.ownP];simp)))
theorem zye {l:List YV}{k:ByteArray}(h:∃y∈l,y.key=k):∃i,zyb l k=some i∧∃hi:i<l.length,l[i].key=k:=by
 obtain⟨y,hy,rfl⟩:=h
 cases hx:zyb l y.key with
 |none=>
  rw[zyb,List.findIdx?_eq_none_iff]at hx
  have:=hx y hy
  simp at this
 |some i=>
  have hi:=z0g hx
  rw[zyb,List.findIdx?_eq_some_iff_getElem]at hx
  refine⟨i,rfl,hi,?_⟩
  have:=hx.2.1
  exact WideShapes.bytes_inj (by rw[← Lib.toList_data,← Lib.toList_data];simpa using this)
theorem zqw (w:World)(o:Obj)(x y z u:Value)(t:TypeId):∀j q,[x,y,z,u][j]?=some q→((w.alloc o).alloc (.cells #[x,y,z,u] t)).drew.cell? ((⟨w.heap.size+1,0,none⟩:Addr).add j)=some q:=by
 have h:=zxe (w.alloc o) x y z u t
 have e:(w.alloc o).heap.size=w.heap.size+1:=by simp
 rw[e]at h
 exact h
theorem z6w (w:World)(o o':Obj):Kp (λ_=>False) w ((w.alloc o).alloc o').drew:=((Kp.alloc _ _ _).trans (Kp.alloc (λ_=>False) _ _) (λ_ _ h=>h)).trans (Kp.drew (λ_=>False) _) (λ_ _ h=>h)
theorem zks (l:List YV)(y:YV):zo (l++[y])=zo l++[.string y.key,.int .i64 y.t,.bool y.gone,.string y.s]:=by simp[zo]
theorem z2g:(Tryz.prog.info? 48).map (λi=>(i.zero,i.size,i.bytes))=some (some (.slice none 0 0),1,24):=by kernel_rfl
theorem z9f {l:List YV}{n:Int}{ks:List ByteArray}{y:YV}(h:y∈ks.filterMap (zzb l n)):∃k∈ks,∃y0∈l,y0.key=k∧y={ y0 with t:=n }:=by
 obtain⟨k,hk,e⟩:=List.mem_filterMap.1 h
 unfold zzb at e
 cases hx:zyb l k with
 |none=>rw[hx]at e;simp at e
 |some i=>
  have hi:=z0g hx
  rw[hx]at e
  simp[List.getElem?_eq_getElem hi]at e
  rw[zyb,List.findIdx?_eq_some_iff_getElem]at hx
  have h2:=hx.2.1
  exact⟨k,hk,l[i],List.getElem_mem _,WideShapes.bytes_inj (by rw[← Lib.toList_data,← Lib.toList_data];simpa using h2),e.symm⟩
theorem zwx {l:List YV}{k:ByteArray}(n:Int)(h:∃y∈l,y.key=k):∃y,zzb l n k=some y:=by
 obtain⟨i,hi,hl,_⟩:=zye h
 exact⟨_,by rw[zzb,hi];simp[List.getElem?_eq_getElem hl];rfl⟩
theorem zbi (l:List YV):∀u∈zo l,u.oneCell'=true:=λu hu=>by
 obtain⟨y,_,h⟩:=List.mem_flatMap.1 hu
 simp at h
 rcases h with rfl|rfl|rfl|rfl<;>rfl
theorem zr0 (w:World):zig w (.slice none 0 0) [] none 0:=⟨rfl,λj hj=>absurd hj (by simp)⟩
set_option maxRecDepth 20000 in
set_option maxHeartbeats 4000000 in
theorem z7h (h:YR own c w p s vL vT vG sv lg)(hB:YB s)(j:Nat)(hj:j<s.txs.length)(ht:zab s ((j:Int)+1)=true)(hne:(s.txs[j]).l.length≠0)
  (hnow:0≤s.now∧s.now≤2000)
  (hC:zkl s (s.txs[j])→∀w',Kp (λb=>(own b).c=c) w w'→YR own c w' p (zqc s j hj) vL vT vG sv lg→R (.returned (.tuple #[.int .i64 0,.int .i64 4])) w')
  (hD:¬zkl s (s.txs[j])→s.now=2000→∀w',Kp (λ_=>False) w w'→R (.returned (.tuple #[.int .i64 0,.int .i64 3])) w')
  (hlg:lg.length≤100000) (hks:∀y∈(s.txs[j]).l,y.key.size≤8∧y.s.size≤20∧inR eb zbq y.key=true)
  (hE:¬zkl s (s.txs[j])→s.now≠2000→∀w' own' vL' vG' lg' ks,Kp (λb=>(own b).c=c) w w'→(∀b,b<w.heap.size→own' b=own b)→ks.Pairwise blt→(∀k,k∈ks↔∃y∈(s.txs[j]).l,y.key=k)→(∃x,lg'=lg++[x]∧BR w.heap.size w' x (zbb (s.now+1).toNat ((ks.filterMap (zzb (s.txs[j]).l (s.now+1))).map toW))∧∀g,x.ownBlock=some g→own' g=own g)→
   YR own' c w' p (zhn s j hj ks) vL' vT vG' sv lg'→R (.returned (.tuple #[.int .i64 (s.now+1),.int .i64 0])) w') :
  Calls Tryz.prog 107 #[.pointer (some ⟨p,0,none⟩),.int .i64 ((j:Int)+1)] w R:=by
 have hsv:j<sv.length:=h.len ▸ hj
 obtain⟨gT,cap,hv,k0,k1,k2,kf,hgT⟩:=h.txAt j hj
 obtain⟨am,cm,hvm⟩:=zqi (h.rowX j hj hsv)
 have hrx:Hid _:=h.rowX j hj hsv
 have hval:=hvm.val
 obtain⟨al,cl,hvl⟩:=zqi h.rowL
 have hvall:=hvl.val
 have HVL:Hid (zig w vL s.l al cl):=hvl
 have HVM:Hid (zig w sv[j] (s.txs[j]).l am cm):=hvm
 have c3:w.cell? ⟨p,3,none⟩=some vT:=zg h.store 3
 have c0:w.cell? ⟨p,0,none⟩=some vL:=zg h.store 0
 have c2:w.cell? ⟨p,2,none⟩=some (.int .i64 s.now):=zg h.store 2
 have l3:p<w.heap.size:=zh h.store
 have l4:gT<w.heap.size:=World.block_lt_of_cell? w _ k0
 rw[hv]at c3
 have hj1:(j:Int)<s.txs.length:=by omega
 have hj2:(j:Int)≤1000000000000:=by have:=hB.txs;omega
 have H:Hid (YR own c w p s vL vT vG sv lg):=h
 have HV:Hid _:=hv
 have HN:Hid (s.txs.length<4611686018427387904):=by have:=hB.txs;show _<_;omega
 have HT:Hid _:=ht
 have HB:Hid _:=hB
 have HC:Hid _:=hC
 have HNZ:Hid ((s.txs[j]).l.length≠0):=hne
 have HD:Hid _:=hD
 have HE:Hid _:=hE
 have HLG:Hid _:=hlg
 have HKS:Hid _:=hks
 have c2f:w.frozen? ⟨p,2,none⟩=false:=zx h.store 2
 have HXL:Hid ((s.txs[j]).l.length<1000000):=by have:=hB.x j hj;show _<_;omega
 have HLL:Hid (s.l.length<1000000):=hB.l
 have hne':(((s.txs[j]).l.length:Int) == 0)=false:=by simp;intro e;exact hne (by rw[e];rfl)
 have HROW:Hid (w.ownsRow 0 193 4 sv[j] (s.txs[j]).l.length (zo (s.txs[j]).l)):=h.rowX j hj hsv
 have HRL:Hid (w.ownsRow 0 193 4 vL s.l.length (zo s.l)):=h.rowL
 generalize hu:sv[j]=u at *
 subst hval
 subst hvall
 have kf0:=kf (j*3)
 have HPG:Hid (gT≠p):=zpb (own:=own) (by rw[hgT,h.ownP];simp)
 clear h hC hD hE hlg hks hB hv hgT hvm hvl kf hne
 go_enter Tryz.func107,Tryz.ntmps107
 go_wp2_with (first
  |(go_at_call 156;refine zwc H.out HN.out _ ?_)
  |go_in)
 go_loopw [8] (λv8 wr=>∃i:Nat,i≤s.l.length∧v8 = .int .i64 i∧Kp (λ_=>False) w wr∧∀i' (hi':i'<s.l.length),i'<i→¬((zyb (s.txs[j]).l s.l[i'].key).isSome=true∧(s.txs[j]).sees<s.l[i'].t))
  (λv8 _=>s.l.length-(intOf v8).toNat)
 case atStart=>exact⟨0,Nat.zero_le _,rfl,Kp.refl _ _,λi' _ h=>by omega⟩
 case round=>
  obtain⟨i,hile,rfl,hkp,hno⟩:=hrel
  have HK:Hid _:=hkp
  have HNO:Hid _:=hno
  have d0:=(hkp.cell (a:=⟨p,0,none⟩) l3 (λh=>h)).trans c0
  have d2:=(hkp.cell (a:=⟨p,2,none⟩) l3 (λh=>h)).trans c2
  have e1:=(hkp.cell (a:=⟨gT,j*3+1,none⟩) l4 (λh=>h)).trans k1
  have e2:=(hkp.cell (a:=⟨gT,j*3+2,none⟩) l4 (λh=>h)).trans k2
  have e0:=(hkp.cell (a:=⟨gT,j*3,none⟩) l4 (λh=>h)).trans k0
  have e3:=(hkp.frozen (a:=⟨gT,j*3,none⟩) l4 (λh=>h)).trans kf0
  have hyr:Hid (YR own c wr p s _ vT vG sv lg):=H.out.kept hkp
  have HRW:Hid (wr.ownsRow 0 193 4 (.slice am (s.txs[j]).l.length cm) (s.txs[j]).l.length (zo (s.txs[j]).l)):=zi HROW.out hkp (λ_ _ h=>h)
  by_cases hlt:i<s.l.length
  ·obtain⟨gL,hal,hk0⟩:=HVL.out.cell i hlt
   subst hal
   rcases zxh HRL.out with ⟨_,h0⟩|⟨gL',cL',hvs⟩
   ·rw[h0]at hlt;simp at hlt
   ·have hvv:=hvs.val
    injection hvv with q1 q2 q3
    injection q1 with q1
    injection q1 with q1 _
    subst q1
    have f0:=(hkp.cell (a:=⟨gL,i*4,none⟩) (World.block_lt_of_cell? w _ (hvs.c0 i hlt)) (λh=>h)).trans (hvs.c0 i hlt)
    have f1:=(hkp.cell (a:=⟨gL,i*4+1,none⟩) (World.block_lt_of_cell? w _ (hvs.c1 i hlt)) (λh=>h)).trans (hvs.c1 i hlt)
    have hlt':(i:Int)<s.l.length:=by omega
    have hi1:(i:Int)≤1000000:=by have:=HLL.out;omega
    generalize hkk:(s.l[i]'hlt).key=kk at f0
    generalize htt:(s.l[i]'hlt).t=tt at f1
    have HKE:Hid (s.l[i].key=kk):=hkk
    have HTE:Hid (s.l[i].t=tt):=htt
    clear hkk htt hvs hkp hno hk0
    cases hix:zyb (s.txs[j]).l kk with
    |none=>
     have HIX:Hid _:=hix
     go_wp2_with (first
      |(go_at_call 159;refine zve gT (j*3) kk (s.txs[j]).l _ wr HXL.out e2 HRW.out (λ_=>?_) (λi' hi'=>by rw[HIX.out]at hi';cases hi'))
      |go_in)
     go_quiet (fail)
     go_wp2_with fail
     go_roundw
     case rel=>
      refine⟨i+1,by omega,by go_num,HK.out.trans (Kp.drewN _ _ _) (λ_ _ h=>h),λi' hi' hlt2=>?_⟩
      by_cases e:i'=i
      ·subst e;rw[HKE.out,HIX.out];simp
      ·exact HNO.out i' hi' (by omega)
     case measure=>simp[intOf];omega
    |some i'=>
     have HIX:Hid _:=hix
     by_cases hgt:(s.txs[j]).sees<tt
     ·go_wp2_with (first
       |(go_at_call 159;refine zve gT (j*3) kk (s.txs[j]).l _ wr HXL.out e2 HRW.out (λhn=>by rw[HIX.out]at hn;cases hn) (λi'' hi'=>?_);rw[HIX.out]at hi';injection hi' with hi';subst hi')
       |go_in)
      go_quiet (fail)
      go_wp2_with fail
      have hkd:∀n,Kp (λ_=>False) w (wr.drewN n):=λn=>HK.out.trans (Kp.drewN (λ_=>False) wr n) (λ_ _ h=>h)
      exact HC.out ⟨i,hlt,by rw[HKE.out,HIX.out];rfl,by rw[HTE.out];exact hgt⟩ _ (((hkd _).own_of (λ_ h=>h.elim)).trans (Kp.setCell _ _ _ (S:=λb=>(own b).c=c) (by show (own gT).c=c;rw[H.out.ownT gT (by rw[HV.out];rfl)])) (λ_ _ h=>h)) ((H.out.kept (hkd _)).setOver j hj gT cap HV.out)
     ·go_wp2_with (first
       |(go_at_call 159;refine zve gT (j*3) kk (s.txs[j]).l _ wr HXL.out e2 HRW.out (λhn=>by rw[HIX.out]at hn;cases hn) (λi'' hi'=>?_);rw[HIX.out]at hi';injection hi' with hi';subst hi')
       |go_in)
      go_quiet (fail)
      go_wp2_with fail
      go_roundw
      case rel=>
       refine⟨i+1,by omega,by go_num,HK.out.trans (Kp.drewN _ _ _) (λ_ _ h=>h),λi' hi' hlt2=>?_⟩
       by_cases e:i'=i
       ·subst e;rw[HKE.out,HIX.out,HTE.out];simp;omega
       ·exact HNO.out i' hi' (by omega)
      case measure=>simp[intOf];omega
  ·have hie:i=s.l.length:=by omega
   have HCF:Hid (¬zkl s (s.txs[j])):=λ⟨i',hi',h'⟩=>hno i' hi' (by omega) h'
   have hge:¬(i:Int)<s.l.length:=by omega
   by_cases h2k:s.now=2000
   ·clear hkp hno
    go_wp2_with fail
    exact HD.out HCF.out h2k _ HK.out
   ·have HY4:Hid _:=hyr.out.setOver j hj gT cap HV.out
    have HY5:Hid _:=HY4.out.tick (s.now+1)
    have hnp:gT≠p:=HPG.out
    have hnp':p≠gT:=λe=>HPG.out e.symm
    have HK5:Hid (Kp (λb=>(own b).c=c) w ((wr.setCell ⟨gT,j*3,none⟩ (.bool true)).setCell ⟨p,2,none⟩ (.int .i64 (s.now+1)))):=((HK.out.own_of (λ_ h=>h.elim)).trans (Kp.setCell _ _ _ (S:=λb=>(own b).c=c) (by show (own gT).c=c;rw[H.out.ownT gT (by rw[HV.out];rfl)])) (λ_ _ h=>h)).trans (Kp.setCell _ _ _ (S:=λb=>(own b).c=c) (by show (own p).c=c;rw[H.out.ownP])) (λ_ _ h=>h)
    have d2f:=(hkp.frozen (a:=⟨p,2,none⟩) l3 (λh=>h)).trans c2f
    have HVM5:Hid (zig ((wr.setCell ⟨gT,j*3,none⟩ (.bool true)).setCell ⟨p,2,none⟩ (.int .i64 (s.now+1))) (.slice am (s.txs[j]).l.length cm) (s.txs[j]).l am cm):=by
     refine⟨rfl,λq hq=>?_⟩
     obtain⟨gq,hga,hgc⟩:=HVM.out.cell q hq
     refine⟨gq,hga,?_⟩
     have hown:own gq=⟨c,4,j,eb⟩:=H.out.ownX j hsv gq (by rw[hu,hga];rfl)
     have n1:gq≠gT:=zpb (own:=own) (by rw[hown,H.out.ownT gT (by rw[HV.out];rfl)];simp)
     have n2:gq≠p:=zpb (own:=own) (by rw[hown,H.out.ownP];simp)
     rw[World.cell?_of_block (w:=wr.setCell ⟨gT,j*3,none⟩ (.bool true)) (Below.heap_setCell _ _ _ gq n2),World.cell?_of_block (w:=wr) (Below.heap_setCell _ _ _ gq n1)]
     exact (HK.out.cell (a:=⟨gq,q*4,none⟩) (World.block_lt_of_cell? w _ hgc) (λh=>h)).trans hgc
    clear hkp hno
    go_wp2_with (first
     |(go_at_call 153;refine zpm (s.txs[j]).l [] _ _ am none cm 0 eb zbq _ HXL.out (by decide) HVM5.out (zr0 _) ?_;intro w1 v1 ks hk1 hrow hsort hmem hlen)
     |go_in)
    have HS5:Hid (w.heap.size≤w1.heap.size):=Nat.le_trans HK5.out.size hk1.size
    have HK1:Hid (Kp (λb=>(own b).c=c) w w1):=HK5.out.trans (hk1.own_of (λ_ h=>h.elim)) (λ_ _ h=>h)
    have HY1:Hid (YR own c w1 p (zgj (zqc s j hj) (s.now+1)) _ vT vG sv lg):=HY5.out.kept hk1
    obtain⟨a1,cap1,rfl,hcell⟩:=zoh hrow
    have HCE:Hid _:=hcell
    have HSO:Hid _:=hsort
    have HME:Hid (∀k,k∈ks↔∃y∈(s.txs[j]).l,y.key=k):=λk=>by
     rw[hmem k,List.append_nil]
     exact⟨λh=>h.1,λ⟨y,hy,e⟩=>⟨⟨y,hy,e⟩,e ▸ (HKS.out y hy).2.2⟩⟩
    have HLE:Hid (ks.length≤10):=by
     have:=HB.out.x j hj
     rw[List.length_nil]at hlen
     show _≤_;omega
    have hx1:=HY1.out.rowX j (by simp[zgj,zqc];exact hj) hsv
    have hx1':Hid (w1.ownsRow 0 193 4 (.slice am (s.txs[j]).l.length cm) (s.txs[j]).l.length (zo (s.txs[j]).l)):=by
     rw[hu]at hx1
     simp[zgj,zqc]at hx1
     exact hx1
    have g2:w1.cell? ⟨p,2,none⟩=some (.int .i64 (s.now+1)):=zg HY1.out.store 2
    have g2l:Hid (p<w1.heap.size):=zh HY1.out.store
    have hte:w1.cell? ⟨gT,j*3+2,none⟩=some (.slice am (s.txs[j]).l.length cm):=by
     obtain⟨gT',cap',hv',k0',k1',k2',kf',hgT'⟩:=HY1.out.txAt j (by simp[zgj,zqc];exact hj)
     rw[HV.out]at hv'
     injection hv' with q1 q2 q3
     injection q1 with q1
     injection q1 with q1 _
     subst q1
     rw[k2',hu]
    have htl:Hid (gT<w1.heap.size):=World.block_lt_of_cell? w1 _ hte
    clear hcell hrow hsort hmem hlen hk1 HVM5 HK5 HY4 HY5 d0 d2 d2f e0 e1 e2 e3 HRW hyr hx1 c0 c2 c3 k0 k1 k2 kf0 c2f l3 l4 HNO HK hge hie hile
    obtain⟨i0,hi,hz0,hz1,hz2⟩:=info_parts zvj
    go_loopw [10,12] (λv10 v12 wq=>∃i:Nat,i≤ks.length∧v12 = .int .i64 i∧Kp (λ_=>False) w1 wq∧wq.ownsRow w1.heap.size 193 4 v10 ((ks.take i).filterMap (zzb (s.txs[j]).l (s.now+1))).length (zo ((ks.take i).filterMap (zzb (s.txs[j]).l (s.now+1)))))
     (λ_ v12 _=>ks.length-(intOf v12).toNat)
    case atStart=>exact⟨0,Nat.zero_le _,rfl,Kp.refl _ _,World.ownsRow_nil _ _ _ _⟩
    case round=>
     obtain⟨q,hqle,rfl,hkp,hown⟩:=hrel
     by_cases hlt:q<ks.length
     ·obtain⟨gk,rfl,hg1,hg2,hcell⟩:=HCE.out (λh=>by rw[h]at hlt;simp at hlt)
      have hck:wr.cell? ⟨gk,q,none⟩=some (.string ks[q]):=(hkp.cell (a:=⟨gk,q,none⟩) hg2 (λh=>h)).trans (hcell q hlt)
      have hmk:=(HME.out ks[q]).1 (List.getElem_mem _)
      have HTK:Hid (ks.take (q+1)=ks.take q++[ks[q]]):=List.take_succ_eq_append_getElem hlt
      generalize hkq:ks[q]=k at *
      obtain⟨ix,hix,hixl,hixk⟩:=zye hmk
      have HIX:Hid _:=hix
      have HNN:Hid (zyb (s.txs[j]).l k≠none):=λe=>by rw[hix]at e;cases e
      rcases zxh hx1'.out with ⟨_,h0⟩|⟨gX,cX,hvs⟩
      ·rw[h0]at hixl;simp at hixl
      ·have hvv:=hvs.val
       injection hvv with q1 q2 q3
       subst q1
       subst q3
       have v0:=(hkp.cell (a:=⟨gX,ix*4,none⟩) (World.block_lt_of_cell? w1 _ (hvs.c0 ix hixl)) (λh=>h)).trans (hvs.c0 ix hixl)
       have v1:=(hkp.cell (a:=⟨gX,ix*4+1,none⟩) (World.block_lt_of_cell? w1 _ (hvs.c1 ix hixl)) (λh=>h)).trans (hvs.c1 ix hixl)
       have v2:=(hkp.cell (a:=⟨gX,ix*4+2,none⟩) (World.block_lt_of_cell? w1 _ (hvs.c2 ix hixl)) (λh=>h)).trans (hvs.c2 ix hixl)
       have v3:=(hkp.cell (a:=⟨gX,ix*4+3,none⟩) (World.block_lt_of_cell? w1 _ (hvs.c3 ix hixl)) (λh=>h)).trans (hvs.c3 ix hixl)
       have HPK:Hid (zzb (s.txs[j]).l (s.now+1) k=some ⟨(s.txs[j]).l[ix].key,s.now+1,(s.txs[j]).l[ix].gone,(s.txs[j]).l[ix].s⟩):=by
        show _=_
        rw[zzb,hix]
        simp[List.getElem?_eq_getElem hixl]
       generalize ((s.txs[j]).l[ix]'hixl).key=xk at v0 HPK hixk
       generalize ((s.txs[j]).l[ix]'hixl).t=xt at v1
       generalize ((s.txs[j]).l[ix]'hixl).gone=xg at v2 HPK
       generalize ((s.txs[j]).l[ix]'hixl).s=xs at v3 HPK
       have hixl':(ix:Int)<(s.txs[j]).l.length:=by omega
       have hix0:(ix:Int)≤1000000:=by have:=HXL.out;omega
       have hlt':(q:Int)<ks.length:=by omega
       have hq1:(q:Int)≤100:=by have:=HLE.out;omega
       have e2:=(hkp.cell (a:=⟨gT,j*3+2,none⟩) htl.out (λh=>h)).trans hte
       have e4:=(hkp.cell (a:=⟨p,2,none⟩) g2l.out (λh=>h)).trans g2
       have b1:=World.new_ne wr _ v0
       have b2:=World.new_ne wr _ hck
       have b3:=World.new_ne wr _ e2
       have b4:=World.new_ne wr _ e4
       have HW:Hid (∀W,Kp (λ_=>False) wr W→W.cell? ⟨gT,j*3+2,none⟩=some (.slice (some ⟨gX,0,none⟩) (s.txs[j]).l.length cm)∧W.ownsRow 0 193 4 (.slice (some ⟨gX,0,none⟩) (s.txs[j]).l.length cm) (s.txs[j]).l.length (zo (s.txs[j]).l)):=λW hW=>
        ⟨(hW.cell (a:=⟨gT,j*3+2,none⟩) (Nat.lt_of_lt_of_le htl.out hkp.size) (λh=>h)).trans e2,zi (zi hx1'.out hkp (λ_ _ h=>h)) hW (λ_ _ h=>h)⟩
       have HKP:Hid _:=hkp
       have HOW:Hid (wr.ownsRow w1.heap.size 193 4 u10 ((ks.take q).filterMap (zzb (s.txs[j]).l (s.now+1))).length (zo ((ks.take q).filterMap (zzb (s.txs[j]).l (s.now+1))))):=hown
       clear hkp hown hvs hx1' hcell hg1 hg2 hixk hix hmk hte g2 hixl HCE HVM hkq
       go_wp2_with fail
       go_region_held3 (λw'=>w'.cell? ⟨gk,q,none⟩=some (.string k)∧w'.cell? ⟨gT,j*3+2,none⟩=some (.slice (some ⟨gX,0,none⟩) (s.txs[j]).l.length cm)∧w'.cell? ⟨gX,ix*4,none⟩=some (.string xk)∧w'.cell? ⟨gX,ix*4+1,none⟩=some (.int .i64 xt)∧w'.cell? ⟨gX,ix*4+2,none⟩=some (.bool xg)∧w'.cell? ⟨gX,ix*4+3,none⟩=some (.string xs)) (go_keep) ((go_at_call 159;refine zve gT (j*3) k (s.txs[j]).l _ _ HXL.out (HW.out _ ?_).1 (HW.out _ ?_).2 (λhn=>absurd hn HNN.out) (λi'' hi'=>?_);(first|exact Kp.drew _ _|exact (Kp.drew _ _).trans (Kp.alloc _ _ _) (λ_ _ h=>h));(first|exact Kp.drew _ _|exact (Kp.drew _ _).trans (Kp.alloc _ _ _) (λ_ _ h=>h));rw[HIX.out]at hi';injection hi' with hi';subst hi'))
       all_goals
        have HLP:Hid (((ks.take q).filterMap (zzb (s.txs[j]).l (s.now+1))).length≤10):=by
         show _≤_
         have h1:=List.length_filterMap_le (zzb (s.txs[j]).l (s.now+1)) (ks.take q)
         have h2:(ks.take q).length≤ks.length:=by simp[List.length_take];omega
         have:=HLE.out
         omega
        have hown2:=zi HOW.out (z6w wr (.cells #[.string xk,.int .i64 (s.now+1),.bool xg,.string xs] 193) (.cells #[.string xk,.int .i64 (s.now+1),.bool xg,.string xs] 193)) (λ_ _ h=>h)
        have e5:((wr.alloc (.cells #[.string xk,.int .i64 xt,.bool xg,.string xs] 193)).drew).cell? ⟨p,2,none⟩=some (.int .i64 (s.now+1)):=(((Kp.alloc (λ_=>False) wr _).trans (Kp.drew (λ_=>False) _) (λ_ _ h=>h)).cell (a:=⟨p,2,none⟩) (World.block_lt_of_cell? wr _ e4) (λh=>h)).trans e4
        have HKZ:Hid _:=z6w wr (.cells #[.string xk,.int .i64 (s.now+1),.bool xg,.string xs] 193) (.cells #[.string xk,.int .i64 (s.now+1),.bool xg,.string xs] 193)
        go_wp2_with (first
         |(at_builtin;refine wpList_append_own_at _ rfl _ _ 74 rfl w1.heap.size 193 i0 (.agg #[.string ⟨#[]⟩,.int .i64 0,.bool false,.string ⟨#[]⟩]) 4 48 Tryz.underlying74 hi hz0 hz1 hz2 rfl (by decide) _ _ _ rfl hown2 ⟨wr.heap.size+1,0,none⟩ 1 1 [.string xk,.int .i64 (s.now+1),.bool xg,.string xs] rfl rfl (zqw _ _ _ _ _ _ _) (by simp[Value.oneCell']) (by have:=HLP.out;unfold maxLen;omega) (by have:=HLP.out;omega) (by have h1:=HKP.out.size;have h2:=HKZ.out.size;omega) ?_;intro v' w3 hown' hgrow hnil hloc)
         |go_in)
        have hb1:∀b,Value.ownBlock u10=some b→w1.heap.size≤b:=λb hb=>(HOW.out.lt b hb).1
        go_roundw
        case rel=>
         refine⟨q+1,by omega,by go_num,(HKP.out.trans HKZ.out (λ_ _ h=>h)).trans (Kp.of_grown (S:=λb=>Value.ownBlock u10=some b) hgrow (λ_ h=>h)) (λb hb h=>by have:=hb1 b h;omega),?_⟩
         have hp0:(ks.take (q+1)).filterMap (zzb (s.txs[j]).l (s.now+1))=(ks.take q).filterMap (zzb (s.txs[j]).l (s.now+1))++[⟨xk,s.now+1,xg,xs⟩]:=by rw[HTK.out,List.filterMap_append];simp[HPK.out]
         rw[hp0,List.length_append,zks]
         exact hown'
        case measure=>simp[intOf];omega
     ·have hqe:q=ks.length:=by omega
      subst hqe
      rw[List.take_length]at hown
      have hN10:(ks.filterMap (zzb (s.txs[j]).l (s.now+1))).length≤10:=Nat.le_trans (List.length_filterMap_le _ _) HLE.out
      have hN0:ks.filterMap (zzb (s.txs[j]).l (s.now+1))≠[]:=λe=>by
       have h0:=HNZ.out
       obtain⟨y,hy⟩:=List.exists_mem_of_length_pos (Nat.pos_of_ne_zero h0)
       have hk:=(HME.out y.key).2 ⟨y,hy,rfl⟩
       obtain⟨z,hz⟩:=zwx (s.now+1) ⟨y,hy,rfl⟩
       have:z∈ks.filterMap (zzb (s.txs[j]).l (s.now+1)):=List.mem_filterMap.2 ⟨_,hk,hz⟩
       rw[e]at this
       cases this
      have HNS:Hid (∀y∈ks.filterMap (zzb (s.txs[j]).l (s.now+1)),y.key.size≤8∧y.s.size≤20):=λy hy=>by
       obtain⟨k,_,y0,hy0,_,rfl⟩:=z9f hy
       exact⟨(HKS.out y0 hy0).1,(HKS.out y0 hy0).2.1⟩
      have HEE:Hid (∀w' own' vL' vG' lg',Kp (λb=>(own b).c=c) w w'→(∀b,b<w.heap.size→own' b=own b)→(∃x,lg'=lg++[x]∧BR w.heap.size w' x (zbb (s.now+1).toNat ((ks.filterMap (zzb (s.txs[j]).l (s.now+1))).map toW))∧∀g,x.ownBlock=some g→own' g=own g)→YR own' c w' p { (zgj (zqc s j hj) (s.now+1)) with l:=s.l++ks.filterMap (zzb (s.txs[j]).l (s.now+1)) } vL' vT vG' sv lg'→R (.returned (.tuple #[.int .i64 (s.now+1),.int .i64 0])) w'):=
       λw' own' vL' vG' lg' h1 h2 h3 h4=>HE.out HCF.out h2k w' own' vL' vG' lg' ks h1 h2 HSO.out HME.out h3 (h4.withLg _)
      generalize ks.filterMap (zzb (s.txs[j]).l (s.now+1))=N at *
      have HN10:Hid _:=hN10
      rcases zxh hown with ⟨_,h0⟩|⟨gN,capN,hvs⟩
      ·exact absurd h0 hN0
      ·have hvv:=hvs.val
       subst hvv
       have hy:=HY1.out.kept hkp
       have HYR:Hid _:=hy
       have HOW:Hid (wr.ownsRow w1.heap.size 193 4 (.slice (some ⟨gN,0,none⟩) N.length capN) N.length (zo N)):=hown
       have hrowL:wr.ownsRow 0 193 4 (.slice al s.l.length cl) s.l.length (zo s.l):=hy.rowL
       have hcN:∀j u,(zo N)[j]?=some u→wr.cell? ((⟨gN,0,none⟩:Addr).add j)=some u:=hown.cells (g:=gN) rfl
       have hgN:=(hown.lt gN rfl).1
       have q0:wr.cell? ⟨p,0,none⟩=some (.slice al s.l.length cl):=zg hy.store 0
       have f0:wr.frozen? ⟨p,0,none⟩=false:=zx hy.store 0
       have hpl:p<wr.heap.size:=zh hy.store
       have hpn:(Value.slice al s.l.length cl).ownBlock≠some p:=λe=>by
        have:=hy.ownL p e
        rw[hy.ownP]at this;simp at this
       have HPN:Hid _:=hpn
       have HVSW:Hid _:=hvs
       have HCN:Hid _:=hcN
       have HGN:Hid _:=hgN
       clear hpn hvs hcN hy hown hgN hN0 hN10 hte g2
       go_wp2_with (first
        |(at_builtin;refine wpList_append_own_at _ rfl _ _ 74 rfl 0 193 i0 (.agg #[.string ⟨#[]⟩,.int .i64 0,.bool false,.string ⟨#[]⟩]) 4 48 Tryz.underlying74 hi hz0 hz1 hz2 rfl (by decide) (.slice al s.l.length cl) s.l.length (zo s.l) rfl hrowL ⟨gN,0,none⟩ N.length capN (zo N) rfl (zjf _) HCN.out (zbi _) (by have:=HLL.out;have:=HN10.out;unfold maxLen;omega) (by have:=HLL.out;have:=HN10.out;omega) (Nat.zero_le _) ?_;intro v' w3 hown' hgrow hnil hloc;have q03:=(World.cell?_of_block (w:=wr) (a:=⟨p,0,none⟩) (hgrow.block p hpl (λe=>HPN.out e.symm))).trans q0;have f03:=(World.frozen?_of_block (w:=wr) (a:=⟨p,0,none⟩) (hgrow.block p hpl (λe=>HPN.out e.symm))).trans f0;obtain⟨a',cap',rfl,hcap'⟩:=zr hown')
        |go_in)
       have hk3:Kp (λb=>(Value.slice al s.l.length cl).ownBlock=some b) wr w3:=Kp.of_grown (S:=λb=>(Value.slice al s.l.length cl).ownBlock=some b) hgrow (λ_ h=>h)
       have hY4:=HYR.out.addVers hk3 N hown' (hloc.imp id (λh=>⟨_,h,Nat.le_refl _⟩))
       have hk4:Kp (λb=>(Value.slice al s.l.length cl).ownBlock=some b∨b=p) wr (w3.setCell ⟨p,0,none⟩ (.slice a' (s.l.length+N.length) cap')):=(hk3.mono (λ_ _ h=>Or.inl h)).trans (Kp.setCell w3 ⟨p,0,none⟩ _ (S:=λb=>b=p) rfl) (λ_ _ h=>Or.inr h)
       generalize w3.setCell ⟨p,0,none⟩ (.slice a' (s.l.length+N.length) cap')=W4 at *
       have hvs4:VS W4 (.slice (some ⟨gN,0,none⟩) N.length capN) N gN capN:=by
        have hne4:¬((Value.slice al s.l.length cl).ownBlock=some gN∨gN=p):=λe=>by
         have h1:=HGN.out
         rcases e with e|e
         ·have:=(HY1.out.rowL.lt gN e).2;omega
         ·have:=g2l.out;omega
        have hb4:W4.heap[gN]?=wr.heap[gN]?:=hk4.block gN (HOW.out.lt gN rfl).2 hne4
        exact⟨rfl,λq hq=>(World.cell?_of_block (w:=wr) (a:=⟨gN,q*4,none⟩) hb4).trans (HVSW.out.c0 q hq),λq hq=>(World.cell?_of_block (w:=wr) (a:=⟨gN,q*4+1,none⟩) hb4).trans (HVSW.out.c1 q hq),λq hq=>(World.cell?_of_block (w:=wr) (a:=⟨gN,q*4+2,none⟩) hb4).trans (HVSW.out.c2 q hq),λq hq=>(World.cell?_of_block (w:=wr) (a:=⟨gN,q*4+3,none⟩) hb4).trans (HVSW.out.c3 q hq)⟩
       have HVS4:Hid (VS W4.drew (.slice (some ⟨gN,0,none⟩) N.length capN) N gN capN):=hvs4.kept (Kp.drew _ _)
       have HY4:Hid _:=hY4
       have r2:W4.cell? ⟨p,2,none⟩=some (.int .i64 (s.now+1)):=zg hY4.1.store 2
       have r4:W4.cell? ⟨p,4,none⟩=some vG:=zg hY4.1.store 4
       have rf4:W4.frozen? ⟨p,4,none⟩=false:=zx hY4.1.store 4
       have rpl:p<W4.heap.size:=zh hY4.1.store
       obtain⟨aG,capG,hvG,_⟩:=zr hY4.1.rowG
       have HRG:Hid (W4.ownsRow 0 48 1 vG lg.length lg):=hY4.1.rowG
       have hpG:vG.ownBlock≠some p:=λe=>by
        have:=hY4.1.ownG p e
        rw[hY4.1.ownP]at this;simp at this
       have HPG2:Hid _:=hpG
       obtain⟨iB,hiB,hb0,hb1,hb2⟩:=info_parts z2g
       have HN1:Hid (0≤s.now+1∧s.now+1≤10000):=⟨by omega,by omega⟩
       have HKP:Hid _:=hkp
       have HK4:Hid _:=hk4
       clear hvs4 hY4 hk3 hk4 hpG hkp hown' hgrow hloc hnil hrowL q0 f0 q03 f03 hpl hcap'
       clear hvG
       go_region_law (first
        |(go_simp;go_at_call 160;refine z62 (s.now+1) N gN capN W4.drew HN1.out.1 HN1.out.2 HN10.out HVS4.out HNS.out ?_;intro v5 w5 n5 hn5 hb5 hk5;have hk45:=(Kp.drew (λ_=>False) W4).trans hk5 (λ_ _ h=>h);have r52:=(hk45.cell (a:=⟨p,2,none⟩) rpl (λh=>h)).trans r2;have r54:=(hk45.cell (a:=⟨p,4,none⟩) rpl (λh=>h)).trans r4;have HK45:Hid _:=hk45;obtain⟨g5,cap5,e5⟩:=hb5.form (by simp[zbb]);rw[← hn5]at e5;subst e5;have HB5:=ze hb5;have r54a:(w5.alloc (.cells #[.slice (some ⟨g5,0,none⟩) (n5+1) cap5] 48)).cell? ⟨p,4,none⟩=some vG:=(World.cell?_of_block (w:=w5) (a:=⟨p,4,none⟩) (Below.heap_alloc _ _ _ (World.block_lt_of_cell? w5 _ r54))).trans r54;clear hk5 hk45 hb5 hn5;dsimp only)
        |(refine zmd rfl (.tmp 138) (.tmp 145) 37 rfl 0 48 iB (.slice none 0 0) 1 24 Tryz.underlying37 hiB hb0 hb1 hb2 rfl (by decide) vG lg.length lg (by simp[Act.eval]) (zi HRG.out (HK45.out.trans (Kp.alloc (λ_=>False) _ _) (λ_ _ h=>h)) (λ_ _ h=>h)) ⟨w5.heap.size,0,none⟩ 1 1 [.slice (some ⟨g5,0,none⟩) (n5+1) cap5] (by simp[Act.eval]) rfl (cell_one_new _ _ _) (by simp[Value.oneCell']) (by have:=HLG.out;unfold maxLen;omega) (by have:=HLG.out;omega) (Nat.zero_le _) ?_;intro v6 w6 hown6 hgrow6 hloc6;have hk46:=((HK45.out.trans (Kp.alloc (λ_=>False) _ _) (λ_ _ h=>h)).mono (S':=λb=>vG.ownBlock=some b) (λ_ _ h=>h.elim)).trans (Kp.of_grown (S:=λb=>vG.ownBlock=some b) hgrow6 (λ_ h=>h)) (λ_ _ h=>h);have r62:=(hk46.cell (a:=⟨p,2,none⟩) rpl HPG2.out).trans r2;have r64:=(hk46.cell (a:=⟨p,4,none⟩) rpl HPG2.out).trans r4;have rf64:=(hk46.frozen (a:=⟨p,4,none⟩) rpl HPG2.out).trans rf4;obtain⟨a6,cap6,rfl,hcap6⟩:=zr hown6))
       all_goals
        have HK6:Hid (Kp (λb=>(own b).c=c) w (w6.setCell ⟨p,4,none⟩ (.slice a6 (lg.length+1) cap6))):=
         (((HK1.out.trans (HKP.out.own_of (λ_ h=>h.elim)) (λ_ _ h=>h)).trans (HK4.out.mono (S':=λb=>(own b).c=c) (λb hb h=>h.elim (λh=>by rw[HYR.out.ownL b h]) (λh=>by rw[h,HYR.out.ownP]))) (λ_ _ h=>h)).trans (hk46.mono (S':=λb=>(own b).c=c) (λb hb h=>by rw[HYR.out.ownG b h])) (λ_ _ h=>h)).trans (Kp.setCell w6 ⟨p,4,none⟩ _ (S:=λb=>(own b).c=c) (by show (own p).c=c;rw[HYR.out.ownP])) (λ_ _ h=>h)
        have hY5:=HY4.out.1.kept (HK45.out.trans (Kp.alloc (λ_=>False) _ (.cells #[.slice (some ⟨g5,0,none⟩) (n5+1) cap5] 48)) (λ_ _ h=>h))
        have HY6:Hid _:=hY5.addLog (Kp.of_grown (S:=λb=>vG.ownBlock=some b) hgrow6 (λ_ h=>h)) (.slice (some ⟨g5,0,none⟩) (n5+1) cap5) hown6 (hloc6.imp id (λh=>⟨_,h,Nat.le_refl _⟩))
        have HBF:Hid (BR w.heap.size (w6.setCell ⟨p,4,none⟩ (.slice a6 (lg.length+1) cap6)) (.slice (some ⟨g5,0,none⟩) (n5+1) cap5) (zbb (s.now+1).toNat (N.map toW))):=by
         have z1:∀b,(Value.slice (some ⟨g5,0,none⟩) (n5+1) cap5).ownBlock=some b→W4.heap.size≤b:=λb e=>(HB5.out.lt b e).1
         have z2:=(HB5.out.mono (base':=w.heap.size) (by have h1:=HK1.out.size;have h2:=HKP.out.size;have h3:=HK4.out.size;show w.heap.size≤W4.heap.size;omega)).kept (Kp.alloc (λ_=>False) _ (.cells #[.slice (some ⟨g5,0,none⟩) (n5+1) cap5] 48))
         exact (z2.kp (Kp.of_grown (S:=λb=>vG.ownBlock=some b) hgrow6 (λ_ h=>h)) (λb e h=>by have h1:=z1 b e;have h2:=(HRG.out.lt b h).2;omega)).kp (Kp.setCell (S:=λb=>b=p) w6 ⟨p,4,none⟩ _ rfl) (λb e h=>by have h1:=z1 b e;omega)
        have HOF:Hid (∀o4:Nat→Lab,o4 g5=own g5→(λb=>if (Value.slice a6 (lg.length+1) cap6).ownBlock=some b then (⟨c,3,0,eb⟩:Lab) else o4 b) g5=own g5):=λo4 e4=>by
         have z1:=HB5.out.lt g5 rfl
         have z3:¬(Value.slice a6 (lg.length+1) cap6).ownBlock=some g5:=λe=>by
          rcases hloc6 with hl|hl
          ·rw[hl]at e
           have h2:=(HRG.out.lt g5 e).2
           have h3:W4.heap.size≤g5:=z1.1
           omega
          ·rw[hl]at e
           injection e with e
           simp at e
           omega
         simp only[z3,if_false]
         exact e4
        have HOL:Hid ((λb=>if (Value.slice a' (s.l.length+N.length) cap').ownBlock=some b then (⟨c,1,0,eb⟩:Lab) else own b) g5=own g5):=by
         have z1:W4.heap.size≤g5:=(HB5.out.lt g5 rfl).1
         have z3:¬(Value.slice a' (s.l.length+N.length) cap').ownBlock=some g5:=λe=>by
          have h2:=(HY4.out.1.rowL.lt g5 e).2
          omega
         show ite _ _ _=_
         rw[if_neg z3]
        have HRF:Hid _:=HEE.out (w6.setCell ⟨p,4,none⟩ (Value.slice a6 (lg.length+1) cap6)) _ (Value.slice a' (s.l.length+N.length) cap') (Value.slice a6 (lg.length+1) cap6) (lg++[Value.slice (some ⟨g5,0,none⟩) (n5+1) cap5]) HK6.out (λb hb=>(HY6.out.2 b (by have h1:=HK1.out.size;have h2:=HKP.out.size;have h3:=HK4.out.size;have h4:=HK45.out.size;simp;omega)).trans (HY4.out.2 b (by have h1:=HK1.out.size;have h2:=HKP.out.size;omega))) ⟨_,rfl,HBF.out,λg hg=>by injection hg with hg;subst hg;exact HOF.out (λb=>if (Value.slice a' (s.l.length+N.length) cap').ownBlock=some b then (⟨c,1,0,eb⟩:Lab) else own b) HOL.out⟩ (by have h7:=HY6.out.1;simp only[zgj,zqc]at h7 ⊢;exact h7)
        clear hY5 hown6 hgrow6 hloc6 hk46
        go_wp2_with fail
        exact HRF.out
end
end Go.Proofs.YthbdpfccfcceiaaGreatDoor
