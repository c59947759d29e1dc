/-
  Of the proof of logsUpto_card.
-/
import Derived.Test.YthbdpfccfcceiaaGreatDoorF3x
namespace Go.Proofs.YthbdpfccfcceiaaGreatDoor
section
open Go.RowKit
theorem zym {w:World}{base e n:Nat}{v:Value}{l:List Value}(h:w.ownsRow base e 1 v n l)(i:Nat)(hi:i<n)(g cap:Nat)(hv:v = .slice (some ⟨g,0,none⟩) n cap)(x:Value) :
  (w.setCell ⟨g,i,none⟩ x).ownsRow base e 1 v n (l.set i x):=by
 rcases h.2 with ⟨_,h0⟩|⟨g',cap',cur,hv',hb,hg,hn,hm,hcs,ht⟩
 ·omega
 ·rw[hv]at hv';cases hv'
  refine⟨by rw[List.length_set];exact h.1,Or.inr ⟨g,cap,cur.setIfInBounds i x,hv,hb,zq hg _,hn,hm,by simpa using hcs,?_⟩⟩
  rw[Array.toList_setIfInBounds,List.take_set,ht]
theorem zow (l:List Value)(i:Nat)(h:i<l.length)(k:Int):(z9c k i++l.drop i).set i (zfj k i)=z9c k (i+1)++l.drop (i+1):=by
 rw[List.set_append_right _ _ (by simp[zkp]),zhi,List.append_assoc]
 simp only[zkp,Nat.sub_self]
 rw[List.drop_eq_getElem_cons h]
 rfl
theorem z3g {w wr w7:World}{v u:Value}{o:Obj}{e n size:Nat}{xs:List Value}(hs:w.heap.size≤wr.heap.size)(h:u.ownBlock=v.ownBlock∨u.ownBlock=some (wr.alloc o).heap.size)(hr:w7.ownsRow 0 e size u n xs):zgf w v u w7.heap.size:=by
 intro b hb
 rcases h with h|h
 ·exact Or.inl (h ▸ hb)
 ·right
  refine⟨?_,(hr.lt b hb).2⟩
  rw[h]at hb
  injection hb with hb
  simp at hb
  omega
theorem z0n (w:World)(a b c:Value)(t:TypeId):∀j u,[a,b,c][j]?=some u→(w.alloc (.cells #[a,b,c] t)).cell? ((⟨w.heap.size,0,none⟩:Addr).add j)=some u:=λj u h=>zyk w #[a,b,c] t j u h
theorem z2r (w:World)(a b:Value)(t:TypeId):∀j u,[a,b][j]?=some u→(w.alloc (.cells #[a,b] t)).cell? ((⟨w.heap.size,0,none⟩:Addr).add j)=some u:=λj u h=>zyk w #[a,b] t j u h
theorem z3o (w:World)(p i:Nat)(y x1 x2 x3 x4:Value)(t:TypeId):∀j u,[x1,x2,x3,x4][j]?=some u→((w.setCell ⟨p,i,none⟩ y).alloc (.cells #[x1,x2,x3,x4] t)).cell? ((⟨w.heap.size,0,none⟩:Addr).add j)=some u:=by
 have h:=zxe (w.setCell ⟨p,i,none⟩ y) x1 x2 x3 x4 t
 have e:(w.setCell ⟨p,i,none⟩ y).heap.size=w.heap.size:=by simp[World.setCell]
 rw[e]at h
 exact h
section
variable {R:Ending→World→Prop}{w:World}
set_option maxRecDepth 20000 in
set_option maxHeartbeats 2000000 in
theorem znu (p:Nat)(cs:Array Value)(vP vK v:Value)(q n:Nat)(ps:List Value)(ks:List Value)(xs:List Value)(hq:q<10000000000)(hn:n<5000000)
  (hp:w.heap[p]?=some (.cells cs 68 (0,0))) (c5:cs[3]?=some vP) (c6:cs[4]?=some vK)
  (hP:w.ownsRow 0 48 1 vP (4*q) ps) (hK:w.ownsRow 0 3 1 vK (4*q) ks) (hv:w.ownsRow 0 5 1 v n xs)
  (n1:v.ownBlock≠some p) (n2:vP.ownBlock≠some p) (n3:vK.ownBlock≠some p) (n4:∀b,vP.ownBlock=some b→v.ownBlock≠some b) (n5:∀b,vK.ownBlock=some b→v.ownBlock≠some b) (n6:∀b,vK.ownBlock=some b→vP.ownBlock≠some b)
  (hR:∀w' vP' vK' v1 v2 v3 s5 s6,Kp (λb=>b=p∨vP.ownBlock=some b∨vK.ownBlock=some b∨v.ownBlock=some b) w w'→
   w'.heap[p]?=some (.cells ((cs.setIfInBounds 3 vP').setIfInBounds 4 vK') 68 (0,0))→
   w'.ownsRow 0 48 1 vP' (4*q+4) (ps++[v,v1,v2,v3])→
   w'.ownsRow 0 3 1 vK' (4*q+4) (ks++[.int .i64 (q+1),.int .i64 (q+1),.int .i64 (q+1),.int .i64 (q+1)])→
   w'.ownsRow 0 5 1 v n (z9c (q+1) n)→w'.ownsRow 0 5 1 v1 (n+1) (z9c (q+1) (n+1))→
   w'.ownsRow 0 5 1 v2 (n+2) (z9c (q+1) (n+2))→w'.ownsRow 0 5 1 v3 (n+3) (z9c (q+1) (n+3))→
   w.heap.size≤s5→s5≤s6→zgf w v v1 s5→zgf w v v2 s5→zgf w v v3 s5→(∀b,vP'.ownBlock=some b→vP.ownBlock=some b∨(s5≤b∧b<s6))→(∀b,vK'.ownBlock=some b→vK.ownBlock=some b∨s6≤b)→R (.returned (.tuple #[])) w') :
  Calls Tryz.prog 120 #[.pointer (some ⟨p,3,none⟩),v] w R:=by
 obtain⟨aP,capP,rfl,hcP⟩:=zr hP
 obtain⟨av,capv,rfl,hcv⟩:=zr hv
 obtain⟨i0,hi,hz0,hz1,hz2⟩:=info_parts zom
 have HI:=ze (And.intro hi (And.intro hz0 (And.intro hz1 hz2)))
 clear hi hz0 hz1 hz2
 have hxs:xs.length=n:=by have:=hv.1;omega
 have HXS:=ze hxs
 have HR:=ze hR
 clear hR
 have HW:=ze hp
 have C5:=ze c5
 have C6:=ze c6
 have HP:=ze hP
 have HK:=ze hK
 have HV:=ze hv
 have N1:=ze n1
 have N2:=ze n2
 have N3:=ze n3
 have N4:=ze n4
 have N5:=ze n5
 have N6:=ze n6
 have d5:w.cell? ⟨p,3,none⟩=some (.slice aP (4*q) capP):=(zg hp 3).trans c5
 have e5:((4*q:Nat):Int) / 4=q:=by omega
 have hq':(q:Int)<10000000000:=by omega
 have hn':(n:Int)<5000000:=by omega
 clear hP hK hv hp c5 c6 n1 n2 n3 n4 n5 n6 hxs
 go_enter Tryz.func120,Tryz.ntmps120
 go_wp2
 go_loopw [6] (λv6 wr=>∃i:Nat,i≤n∧v6 = .int .i64 i∧Kp (λb=>(Value.slice av n capv).ownBlock=some b) w wr∧wr.ownsRow 0 5 1 (.slice av n capv) n (z9c (q+1) i++xs.drop i)) (λv6 _=>n-(intOf v6).toNat)
 case atStart=>exact⟨0,Nat.zero_le _,rfl,Kp.refl _ _,by simpa [z9c] using HV.out⟩
 case round=>
  obtain⟨i,hile,rfl,hkp,hrow⟩:=hrel
  by_cases hin:i<n
  ·have hin':(i:Int)<n:=by omega
   rcases hrow.2 with ⟨_,h0⟩|⟨g,cap,cur,hvx,hbx,hgx,hnx,hmx,hcsx,htx⟩
   ·omega
   ·injection hvx with hav _ hcap
    subst hav
    subst hcap
    have m0:(wr.cell? ⟨g,i,none⟩).isSome=true:=by
     rw[zg hgx,Array.getElem?_eq_getElem (by omega)];rfl
    have mf0:wr.frozen? ⟨g,i,none⟩=false:=zx hgx i
    obtain⟨x0,e0⟩:=Option.isSome_iff_exists.1 m0
    have HRS:=ze (zym hrow i hin g capv rfl (zfj (q+1) i))
    have HKP:=ze hkp
    clear hrow hin hgx htx hcsx hnx hmx hbx m0 hkp hcP hcv e5 d5 hile
    go_wp2_with (first
     |(go_at_call 65;refine zzi _ _ i (by omega) _ ⟨by omega,by omega⟩ (by omega) ?_)
     |fail)
    go_roundw
    case rel=>
     refine⟨i+1,by omega,by go_num,HKP.out.trans (Kp.setCell (S:=λb=>(Value.slice (some ⟨g,0,none⟩) n capv).ownBlock=some b) wr ⟨g,i,none⟩ _ rfl) (λ_ _ h=>h),?_⟩
     have:=HRS.out
     rw[zow xs i (by have:=HXS.out;omega)]at this
     exact this
    case measure=>simp[intOf];omega
  ·have hie:i=n:=by omega
   subst hie
   have hX:wr.ownsRow 0 5 1 (.slice av i capv) i (z9c (q+1) i):=by
    have:=hrow
    rw[List.drop_eq_nil_of_le (by have:=HXS.out;omega),List.append_nil]at this
    exact this
   have HX:=ze hX
   have HKP:=ze hkp
   have HSZ:=ze hkp.size
   have HVL:Hid (∀b,(Value.slice av i capv).ownBlock=some b→b<w.heap.size):=λb hb=>(HV.out.lt b hb).2
   obtain⟨iP,hP⟩:=info_parts z2g
   have HIP:=ze hP
   obtain⟨iI,hI⟩:=info_parts zql
   have HII:=ze hI
   clear hP hI
   generalize hXs:z9c (q+1) i=X at *
   clear hrow hkp hX hin d5 hile hcP hcv e5
   have HXs:=ze hXs
   clear hXs
   go_wp2_with (first
    |(go_at_call 65;refine zzi _ _ i (by omega) _ ⟨by omega,by omega⟩ (by omega) ?_)
    |(go_at_call 65;refine zzi _ _ (i+1) (by omega) _ ⟨by omega,by omega⟩ (by omega) ?_)
    |(go_at_call 65;refine zzi _ _ (i+2) (by omega) _ ⟨by omega,by omega⟩ (by omega) ?_)
    |(at_builtin;refine zz rfl _ _ 48 rfl 0 5 i0 (.int .u8 0) 1 1 Tryz.underlying48 HI.out.1 HI.out.2.1 HI.out.2.2.1 HI.out.2.2.2 rfl (by decide) _ _ _ rfl (HX.out.alloc _) ⟨wr.heap.size,0,none⟩ 1 1 [.int .u8 (zaf (q+1) i)] rfl rfl (cell_one_new _ _ _) (by simp[Value.oneCell']) (by unfold maxLen;omega) (by omega) (Nat.zero_le _) (by decide) ?_;intro v7 w7 own7 grow7 loc7 keep7;have hk:=zhc (S:=λb=>(Value.slice av i capv).ownBlock=some b) grow7 (λ_ h=>h);have HR7:=ze (keep7 _ _ _ (HX.out.alloc _) (List.prefix_append _ _));have HL7:=ze (z3g (w:=w) HSZ.out loc7 own7);obtain⟨a7,cap7,rfl,_⟩:=zr own7;have HO7:=ze own7;have HK7:=ze hk;have HS7:Hid (w.heap.size≤w7.heap.size):=Nat.le_trans HSZ.out hk.size;clear hk own7 grow7 loc7 keep7)
    |(at_builtin;refine zz rfl _ _ 48 rfl 0 5 i0 (.int .u8 0) 1 1 Tryz.underlying48 HI.out.1 HI.out.2.1 HI.out.2.2.1 HI.out.2.2.2 rfl (by decide) _ _ _ rfl (HR7.out.alloc _) ⟨w7.heap.size,0,none⟩ 2 2 [.int .u8 (zaf (q+1) i),.int .u8 (zaf (q+1) (i+1))] rfl rfl (z2r w7 _ _ _) (by simp[Value.oneCell']) (by unfold maxLen;omega) (by omega) (Nat.zero_le _) (by decide) ?_;intro v8 w8 own8 grow8 loc8 keep8;have hk:=zhc (S:=λb=>(Value.slice av i capv).ownBlock=some b) grow8 (λ_ h=>h);have HR8:=ze (keep8 _ _ _ (HR7.out.alloc _) (List.prefix_append _ _));have HR8a:=ze (keep8 _ _ _ (HO7.out.alloc _) (by simp[List.prefix_append_right_inj]));have HL8:=ze (z3g (w:=w) HS7.out loc8 own8);obtain⟨a8,cap8,rfl,_⟩:=zr own8;have HO8:=ze own8;have HK8:=ze hk;have HS8:Hid (w.heap.size≤w8.heap.size):=Nat.le_trans HS7.out hk.size;clear hk own8 grow8 loc8 keep8)
    |(at_builtin;refine zz rfl _ _ 48 rfl 0 5 i0 (.int .u8 0) 1 1 Tryz.underlying48 HI.out.1 HI.out.2.1 HI.out.2.2.1 HI.out.2.2.2 rfl (by decide) _ _ _ rfl (HR8.out.alloc _) ⟨w8.heap.size,0,none⟩ 3 3 [.int .u8 (zaf (q+1) i),.int .u8 (zaf (q+1) (i+1)),.int .u8 (zaf (q+1) (i+2))] rfl rfl (z0n w8 _ _ _ _) (by simp[Value.oneCell']) (by unfold maxLen;omega) (by omega) (Nat.zero_le _) (by decide) ?_;intro v9 w9 own9 grow9 loc9 keep9;have hk:=zhc (S:=λb=>(Value.slice av i capv).ownBlock=some b) grow9 (λ_ h=>h);have HR9:=ze (keep9 _ _ _ (HR8.out.alloc _) (List.prefix_append _ _));have HR9a:=ze (keep9 _ _ _ (HR8a.out.alloc _) (by simp[List.prefix_append_right_inj]));have HR9b:=ze (keep9 _ _ _ (HO8.out.alloc _) (by simp[List.prefix_append_right_inj]));have HL9:=ze (z3g (w:=w) HS8.out loc9 own9);obtain⟨a9,cap9,rfl,_⟩:=zr own9;have HO9:=ze own9;have HK9:=ze hk;have HS9:Hid (w.heap.size≤w9.heap.size):=Nat.le_trans HS8.out hk.size;have hkw:=((HKP.out.trans HK7.out (λ_ _ h=>h)).trans HK8.out (λ_ _ h=>h)).trans hk (λ_ _ h=>h);have hp9:=mbs hkw HW.out N1.out;have y5:w9.cell? ⟨p,3,none⟩=some (.slice aP (4*q) capP):=(zg hp9 3).trans C5.out;have HP9:=ze hp9;have HKW:=ze hkw;clear hp9 hkw;clear hk own9 grow9 loc9 keep9)
    |(at_builtin;refine zz rfl _ _ 37 rfl 0 48 iP (.slice none 0 0) 1 24 Tryz.underlying37 HIP.out.1 HIP.out.2.1 HIP.out.2.2.1 HIP.out.2.2.2 rfl (by decide) _ _ _ rfl ((zi HP.out HKW.out N4.out).alloc _) ⟨w9.heap.size,0,none⟩ 4 4 [.slice av i capv,.slice a7 (i+1) cap7,.slice a8 (i+2) cap8,.slice a9 (i+3) cap9] rfl rfl (zxe w9 _ _ _ _ _) (by simp[Value.oneCell']) (by unfold maxLen;omega) (by omega) (Nat.zero_le _) (by decide) ?_;intro v10 w10 own10 grow10 loc10 keep10;have hk:=zhc (S:=λb=>(Value.slice aP (4*q) capP).ownBlock=some b) grow10 (λ_ h=>h);have hp10:=mbs hk HP9.out N2.out;have y5:w10.cell? ⟨p,3,none⟩=some (.slice aP (4*q) capP):=(zg hp10 3).trans C5.out;have yf5:=zx hp10 3;have y6:w10.cell? ⟨p,4,none⟩=some vK:=(zg hp10 4).trans C6.out;obtain⟨a10,cap10,rfl,_⟩:=zr own10;have HP10:=ze hp10;have HK10:=ze hk;have HO10:=ze own10;have HL10:=ze loc10;clear hp10 hk own10 grow10 loc10 keep10)
    |(at_builtin;refine zz rfl _ _ 26 rfl 0 3 iI (.int .i64 0) 1 8 Tryz.underlying26 HII.out.1 HII.out.2.1 HII.out.2.2.1 HII.out.2.2.2 rfl (by decide) _ _ _ rfl ((zi (zi (zi HK.out HKW.out N5.out) HK10.out N6.out) (Kp.setCell (S:=λb=>b=p) w10 ⟨p,3,none⟩ (.slice a10 (4*q+4) cap10) rfl) (λb hb e=>N3.out (by rw[← e];exact hb))).alloc _) ⟨w10.heap.size,0,none⟩ 4 4 [.int .i64 (q+1),.int .i64 (q+1),.int .i64 (q+1),.int .i64 (q+1)] rfl rfl (z3o w10 p 3 _ _ _ _ _ _) (by simp[Value.oneCell']) (by unfold maxLen;omega) (by omega) (Nat.zero_le _) (by decide) ?_;intro v11 w11 own11 grow11 loc11 keep11;have hk:=zhc (S:=λb=>vK.ownBlock=some b) grow11 (λ_ h=>h);have hp11:=mbs hk (zq HP10.out _) N3.out;have y6:w11.cell? ⟨p,4,none⟩=some vK:=(zg hp11 4).trans (by simpa using C6.out);have yf6:=zx hp11 4;obtain⟨a11,cap11,rfl,_⟩:=zr own11;have HP11:=ze hp11;have HK11:=ze hk;have HO11:=ze own11;have HL11:=ze loc11;clear hp11 hk own11 grow11 loc11 keep11)
    |fail)
   have lp:p<w.heap.size:=zh HW.out
   have lP:∀b,(Value.slice aP (4*q) capP).ownBlock=some b→b<w.heap.size:=λb hb=>(HP.out.lt b hb).2
   have lK:∀b,vK.ownBlock=some b→b<w.heap.size:=λb hb=>(HK.out.lt b hb).2
   have s9:=HS9.out
   have s10:=HK10.out.size
   have s11:w10.heap.size≤w11.heap.size:=by have:=HK11.out.size;simpa [World.setCell] using this
   have t11:Kp (λb=>b=p∨vK.ownBlock=some b) w10 (w11.setCell ⟨p,4,none⟩ (.slice a11 (4*q+4) cap11)):=
    ((Kp.setCell (S:=λb=>b=p∨vK.ownBlock=some b) w10 ⟨p,3,none⟩ (.slice a10 (4*q+4) cap10) (Or.inl rfl)).trans (HK11.out.mono (S':=λb=>b=p∨vK.ownBlock=some b) (λ_ _ h=>Or.inr h)) (λ_ _ h=>h)).trans (Kp.setCell (S:=λb=>b=p∨vK.ownBlock=some b) w11 _ _ (Or.inl rfl)) (λ_ _ h=>h)
   have t10:Kp (λb=>b=p∨(Value.slice aP (4*q) capP).ownBlock=some b∨vK.ownBlock=some b) w9 (w11.setCell ⟨p,4,none⟩ (.slice a11 (4*q+4) cap11)):=
    (HK10.out.mono (S':=λb=>b=p∨(Value.slice aP (4*q) capP).ownBlock=some b∨vK.ownBlock=some b) (λ_ _ h=>Or.inr (Or.inl h))).trans t11 (λ_ _ h=>h.imp id Or.inr)
   have t9:Kp (λb=>b=p∨(Value.slice aP (4*q) capP).ownBlock=some b∨vK.ownBlock=some b∨(Value.slice av i capv).ownBlock=some b) w (w11.setCell ⟨p,4,none⟩ (.slice a11 (4*q+4) cap11)):=
    (HKW.out.mono (S':=λb=>b=p∨(Value.slice aP (4*q) capP).ownBlock=some b∨vK.ownBlock=some b∨(Value.slice av i capv).ownBlock=some b) (λ_ _ h=>Or.inr (Or.inr (Or.inr h)))).trans t10 (λ_ _ h=>h.imp id (λh=>h.imp id Or.inl))
   have nv:∀b,(Value.slice av i capv).ownBlock=some b→¬(b=p∨(Value.slice aP (4*q) capP).ownBlock=some b∨vK.ownBlock=some b):=λb hb h=>by
    rcases h with h|h|h
    ·exact N1.out (by rw[← h];exact hb)
    ·exact N4.out b h hb
    ·exact N5.out b h hb
   have nu:∀u s,zgf w (Value.slice av i capv) u s→∀b,u.ownBlock=some b→¬(b=p∨(Value.slice aP (4*q) capP).ownBlock=some b∨vK.ownBlock=some b):=λu s hu b hb=>by
    rcases hu b hb with h|h
    ·exact nv b h
    ·intro h2
     rcases h2 with h2|h2|h2
     ·omega
     ·have:=lP b h2;omega
     ·have:=lK b h2;omega
   have x1:X++[.int .u8 (zaf (q+1) i)]=z9c (q+1) (i+1):=by rw[zhi,HXs.out];rfl
   have x2:X++[.int .u8 (zaf (q+1) i),.int .u8 (zaf (q+1) (i+1))]=z9c (q+1) (i+2):=by rw[zhi,← x1];simp[zfj]
   have x3:X++[.int .u8 (zaf (q+1) i),.int .u8 (zaf (q+1) (i+1)),.int .u8 (zaf (q+1) (i+2))]=z9c (q+1) (i+3):=by rw[zhi,← x2];simp[zfj]
   have f0:=zi HR9.out t10 nv
   have f1:=zi HR9a.out t10 (nu _ _ HL7.out)
   have f2:=zi HR9b.out t10 (nu _ _ HL8.out)
   have f3:=zi HO9.out t10 (nu _ _ HL9.out)
   rw[x1]at f1
   rw[x2]at f2
   rw[x3]at f3
   have l10:∀b,(Value.slice a10 (4*q+4) cap10).ownBlock=some b→(Value.slice aP (4*q) capP).ownBlock=some b∨(w9.heap.size≤b∧b<w10.heap.size):=λb hb=>by
    have hlt:=(HO10.out.lt b hb).2
    rcases HL10.out with h|h
    ·exact Or.inl (h ▸ hb)
    ·rw[h]at hb
     injection hb with hb
     simp at hb
     exact Or.inr ⟨by omega,hlt⟩
   have l11:∀b,(Value.slice a11 (4*q+4) cap11).ownBlock=some b→vK.ownBlock=some b∨w10.heap.size≤b:=λb hb=>by
    rcases HL11.out with h|h
    ·exact Or.inl (h ▸ hb)
    ·rw[h]at hb
     injection hb with hb
     simp[World.setCell]at hb
     exact Or.inr (by omega)
   have g10:=zi HO10.out t11 (λb hb h=>by
    rcases l10 b hb with h1|h1
    ·rcases h with h|h
     ·exact N2.out (by rw[← h];exact h1)
     ·exact N6.out b h h1
    ·rcases h with h|h
     ·omega
     ·have:=lK b h;omega)
   have g11:=zi HO11.out (Kp.setCell (S:=λb=>b=p) w11 ⟨p,4,none⟩ (.slice a11 (4*q+4) cap11) rfl) (λb hb h=>by
    rcases l11 b hb with h1|h1
    ·exact N3.out (by rw[← h];exact h1)
    ·omega)
   have HF:=ze (HR.out _ _ _ _ _ _ w9.heap.size w10.heap.size t9 (zq HP11.out _) g10 g11 f0 f1 f2 f3 s9 s10 (HL7.out.mono (Nat.le_trans HK8.out.size HK9.out.size)) (HL8.out.mono HK9.out.size) HL9.out l10 l11)
   clear f0 f1 f2 f3 g10 g11 l10 l11 t9 t10 t11 nu nv x1 x2 x3 lp lP lK s9 s10 s11
   go_end0
   exact HF.out
end
end
section
open Go.RowKit
def zdm (w:World)(v:Value)(lg:List (List UInt8)):Prop:=
 ∃a cap,v = .slice a lg.length cap∧(lg≠[]→∃ga oa,a=some ⟨ga,oa,none⟩∧∀(i:Nat) f,lg[i]?=some f→∃u,w.cell? ⟨ga,oa+i,none⟩=some u∧RdB w u f∧∃p n c,u = .slice p n c)
theorem zdm.kept {w w':World}{v:Value}{lg:List (List UInt8)}(h:zdm w v lg)(k:Kp (λ_=>False) w w'):zdm w' v lg:=by
 obtain⟨a,cap,rfl,h0⟩:=h
 refine⟨a,cap,rfl,λhne=>?_⟩
 obtain⟨ga,oa,rfl,h⟩:=h0 hne
 refine⟨ga,oa,rfl,λi f hf=>?_⟩
 obtain⟨u,h1,h2,h3⟩:=h i f hf
 exact⟨u,(k.cell (a:=⟨ga,oa+i,none⟩) (World.block_lt_of_cell? _ _ h1) (λe=>e)).trans h1,h2.kept k,h3⟩
theorem FR.longer {base:Nat}{w w1:World}{v u u1:Value}{fs:List (List UInt8)}{lv:List Value}{f x:List UInt8}{g cap:Nat}(h:FR base w v (fs++[f]) (lv++[u]))(hv:v = .slice (some ⟨g,0,none⟩) (fs.length+1) cap)
  (h1:BR base w1 u1 (f++x)) (hk:Kp (λb=>u.ownBlock=some b) w w1) (hloc:u1.ownBlock=u.ownBlock∨u1.ownBlock=some w.heap.size):FR base (w1.setCell ⟨g,fs.length,none⟩ u1) v (fs++[f++x]) (lv++[u1]):=by
 have hlen:lv.length=fs.length:=by have:=h.len;simpa using this
 have hu:BR base w u f:=h.at_ fs.length u f (by rw[← hlen];simp) (by simp)
 have hgo:v.ownBlock=some g:=by rw[hv];rfl
 have hgl:=h.row.lt g hgo
 have hug:u.ownBlock≠some g:=λe=>z7 h.row hu (by decide) g hgo e
 have hrow1:w1.ownsRow base 48 1 v (fs.length+1) (lv++[u]):=by
  have:=zi h.row hk (λb e e2=>z7 h.row hu (by decide) b e e2)
  simpa using this
 have hu1g:u1.ownBlock≠some g:=λe=>by
  rcases hloc with hl|hl
  ·rw[hl]at e;exact hug e
  ·rw[hl]at e;injection e with e;omega
 have hset:∀b,b≠g→(w1.setCell ⟨g,fs.length,none⟩ u1).heap[b]?=w1.heap[b]?:=λb hb=>Below.heap_setCell w1 _ _ b hb
 refine⟨?_,λi y z hy hz=>?_,λi j y z b hy hz e1 e2=>?_⟩
 ·have h2:∀{n:Nat} {xs:List Value},w1.ownsRow base 48 1 (.slice (some ⟨g,0,none⟩) n cap) n xs→(w1.setCell ⟨g,fs.length,none⟩ u1).ownsRow base 48 1 (.slice (some ⟨g,0,none⟩) n cap) n (xs.set fs.length u1):=λ{n xs} hr=>by
   refine⟨by simpa using hr.1,Or.inr ?_⟩
   rcases hr.2 with ⟨h0,_⟩|⟨g',cap',cur,e1,h2,hg,h4,h5,h6,h7⟩
   ·cases h0
   ·injection e1 with e1 _ e3
    injection e1 with e1
    injection e1 with e1
    subst e1;subst e3
    refine⟨g,cap,cur.setIfInBounds fs.length u1,rfl,h2,?_,h4,h5,by simpa using h6,?_⟩
    ·simp[World.setCell,Array.getElem?_modify,hg]
    ·rw[← h7]
     simp[List.take_set]
  rw[hv]at hrow1 ⊢
  have h3:=h2 hrow1
  rw[show (lv++[u]).set fs.length u1=lv++[u1] by rw[← hlen];simp]at h3
  simpa using h3
 ·rcases Nat.lt_trichotomy i lv.length with hi|hi|hi
  ·rw[List.getElem?_append_left hi]at hy
   rw[List.getElem?_append_left (by omega)]at hz
   have hb:=h.at_ i y z (by rw[List.getElem?_append_left hi];exact hy) (by rw[List.getElem?_append_left (by omega)];exact hz)
   have hb1:BR base w1 y z:=hb.kp hk (λb e e2=>by
    have:=h.apart i lv.length y u b (by rw[List.getElem?_append_left hi];exact hy) (by simp) e e2
    omega)
   exact zge hb1 (λb e=>hset b (λe2=>by subst e2;exact z7 h.row hb (by decide) b hgo e))
  ·subst hi
   rw[List.getElem?_append_right (by omega)]at hy
   rw[List.getElem?_append_right (by omega)]at hz
   simp at hy
   rw[hlen]at hz
   simp at hz
   subst hy;subst hz
   exact zge h1 (λb e=>hset b (λe2=>by subst e2;exact hu1g e))
  ·rw[List.getElem?_eq_none (by simp;omega)]at hy;cases hy
 ·have old:∀{i:Nat} {y:Value},(lv++[u1])[i]?=some y→i<lv.length→(lv++[u])[i]?=some y:=λhy hi=>by
   rw[List.getElem?_append_left hi]at hy ⊢;exact hy
  have last:∀{i:Nat} {y:Value},(lv++[u1])[i]?=some y→¬i<lv.length→i=lv.length∧y=u1:=λ{i y} hy hi=>by
   have hlt:=(List.getElem?_eq_some_iff.1 hy).1
   simp at hlt
   have e:i=lv.length:=by omega
   subst e
   simp at hy
   exact⟨rfl,hy.symm⟩
  have cross:∀{i:Nat} {y:Value} {b:Nat},(lv++[u])[i]?=some y→i<lv.length→y.ownBlock=some b→u1.ownBlock=some b→False:=λ{i y b} hy hi e1 e2=>by
   rcases hloc with hl|hl
   ·rw[hl]at e2
    have:=h.apart i lv.length y u b hy (by simp) e1 e2
    omega
   ·rw[hl]at e2
    injection e2 with e2
    have hz:∃z,(fs++[f])[i]?=some z:=⟨_,List.getElem?_eq_getElem (by simp;omega)⟩
    obtain⟨z,hz⟩:=hz
    have:=((h.at_ i y z hy hz).lt b e1).2
    omega
  by_cases hi:i<lv.length
  ·by_cases hj:j<lv.length
   ·exact h.apart i j y z b (old hy hi) (old hz hj) e1 e2
   ·obtain⟨rfl,rfl⟩:=last hz hj
    exact (cross (old hy hi) hi e1 e2).elim
  ·obtain⟨rfl,rfl⟩:=last hy hi
   by_cases hj:j<lv.length
   ·exact (cross (old hz hj) hj e2 e1).elim
   ·exact (last hz hj).1.symm
section
variable {R:Ending→World→Prop}
theorem FR.at_lt {base:Nat}{w:World}{v:Value}{fs:List (List UInt8)}{lv:List Value}(h:FR base w v fs lv){j:Nat}{x:Value}(hx:lv[j]?=some x):∀b,x.ownBlock=some b→b<w.heap.size:=λb e=>by
 have hj:j<fs.length:=by rw[← h.len];exact (List.getElem?_eq_some_iff.1 hx).1
 exact ((h.at_ j x _ hx (List.getElem?_eq_getElem hj)).lt b e).2
theorem zjp {w:World}{base e size n:Nat}{v:Value}{xs:List Value}(h:w.ownsRow base e size v n xs){b:Nat}(hb:v.ownBlock=some b):∃cur,w.heap[b]?=some (.cells cur e (0,0)):=by
 rcases h.2 with ⟨rfl,_⟩|⟨g,cap,cur,rfl,_,hg,_⟩
 ·cases hb
 ·cases hb;exact⟨cur,hg⟩
set_option maxRecDepth 20000 in
set_option maxHeartbeats 4000000 in
theorem zuq (v:Value)(lg:List (List UInt8))(w:World)(hv:zdm w v lg)(hl:lg.length≤5000)(hb:∀b∈lg,b≠[]∧b.length≤400)
  (hR:∀v' lv' w',FR w.heap.size w' v' (zm lg) lv'→Kp (λ_=>False) w w'→R (.returned v') w') :
  Calls Tryz.prog 114 #[v] w R:=by
 have HV:=ze hv
 have HR:=ze hR
 have HL:=ze hl
 have HB:=ze hb
 obtain⟨a0,cap0,rfl,hv1⟩:=hv
 have hl':(lg.length:Int)≤5000:=by omega
 clear hR hl hb hv1
 go_enter Tryz.func114,Tryz.ntmps114
 go_wp2
 go_loopw [3,4] (λv3 v4 wr=>∃(i:Nat) (lv:List Value),i≤lg.length∧v4 = .int .i64 i∧Kp (λ_=>False) w wr∧FR w.heap.size wr v3 (zm (lg.take i)) lv) (λ_ v4 _=>lg.length-(intOf v4).toNat)
 case atStart=>exact⟨0,[],Nat.zero_le _,rfl,Kp.refl _ _,FR.nil _ _⟩
 case round=>
  obtain⟨i,lv,hi,rfl,hkp,hfr⟩:=hrel
  obtain⟨pu,cu,rfl⟩:=zp hfr.row
  have HK:=ze hkp
  have HFR0:=ze hfr
  have hfl:(zm (lg.take i)).length=(i+3) / 4:=by rw[z4c,List.length_take];congr 2;omega
  by_cases hlt:i<lg.length
  ·obtain⟨b,hbi⟩:∃b,lg[i]?=some b:=⟨lg[i],List.getElem?_eq_getElem hlt⟩
   have hlt':(i:Int)<lg.length:=by omega
   have hbm:=HB.out b (List.mem_of_getElem? hbi)
   have HBN:=ze hbm.1
   have HBL:=ze hbm.2
   have htk:lg.take (i+1)=lg.take i++[b]:=zpi hbi
   have hti:(lg.take i).length=i:=by rw[List.length_take];omega
   have hnx:zm (lg.take (i+1))=zrg (zm (lg.take i)) i b:=by rw[htk,z8d,hti]
   have hbb:=z2e (lg.take i) 400 (λx hx=>(HB.out x (List.mem_of_mem_take hx)).2)
   have HBB:Hid (bytesOf (zm (lg.take i))≤5000*417):=Nat.le_trans hbb (by rw[hti];exact Nat.mul_le_mul_right _ (by have:=HL.out;omega))
   obtain⟨aq,capq,eq1,hcq⟩:=HV.out
   obtain⟨ga,oa,eq2,hcq2⟩:=hcq (λe=>by rw[e]at hlt;simp at hlt)
   injection eq1 with eq3 eq4 eq5
   rw[← eq3]at eq2
   clear eq4 eq5
   subst eq2
   obtain⟨ub,hub1,hub2,pb,nb,cb,rfl⟩:=hcq2 i b hbi
   have HUB1:=ze hub1
   have HUB2:=ze hub2
   clear hcq hcq2 hub1 hub2 eq3
   clear hbm htk hti hbb hfr hkp hbi
   by_cases h4:i % 4=0
   ·have d4:((i:Int) % 4 == 0)=true:=by simp;omega
    obtain⟨fs1,hfs⟩:∃fs1,zm (lg.take i)=fs1:=⟨_,rfl⟩
    rw[hfs]at hnx hfl HFR0 HBB ⊢
    obtain⟨f1,hf1⟩:∃f1,zoc (i / 4)=f1:=⟨_,rfl⟩
    have HF1:=ze hf1
    have HF1L:Hid (f1.length≤3000000):=by show _≤_;rw[← hf1,ztd];omega
    have HF1N:Hid (f1≠[]):=by show _≠_;rw[← hf1];exact λe=>by have:=ztd (i / 4);rw[e]at this;simp at this
    have HNX:Hid (zm (lg.take (i+1))=fs1++[f1++zqb b]):=by
     show _=_
     rw[hnx]
     unfold zrg
     rw[if_pos h4,show fs1.length=i / 4 by omega,hf1]
    have hfl':(fs1.length:Int)≤2000:=by have:=HL.out;omega
    have HFL:Hid (fs1.length≤2000):=by show _≤_;omega
    clear hfs hf1 hnx hfl
    go_wp2_with (first
     |(go_at_call 165;refine zmm (i / 4) _ (by have:=HL.out;omega) (λv5 w5 hb5 hk5=>?_);rw[HF1.out]at hb5;obtain⟨g1,c1,rfl⟩:=hb5.form HF1N.out;have HX5:=ze hb5;have HK5:=ze hk5;clear hb5 hk5)
     |(at_builtin;refine zpf _ rfl _ _ rfl w.heap.size _ fs1.length lv rfl ((HFR0.out.kept HK5.out).kept (Kp.alloc (λ_=>False) w5 (.cells #[.slice (some ⟨g1,0,none⟩) f1.length c1] 48))).row w5.heap.size (.slice (some ⟨g1,0,none⟩) f1.length c1) rfl (zg (heap_alloc_new w5 _) 0) rfl (by have:=HFL.out;omega) (by have:=HK.out.size;have:=HK5.out.size;simp;omega) ?_;intro vq wq hrowq hkq hlocq;have HFRq:=ze (FR.snoc (w:=wr) ((HFR0.out.kept HK5.out).kept (Kp.alloc (λ_=>False) w5 (.cells #[.slice (some ⟨g1,0,none⟩) f1.length c1] 48))) (HX5.out.kept (Kp.alloc _ _ _)) (λb e=>(HFR0.out.row.lt b e).2) (λj x hx b e=>(HFR0.out.at_lt hx b e)) HK.out.size hrowq hkq);obtain⟨gq,cq,_,eq,_,_⟩:=zib hrowq (by omega);subst eq;have HFR:=ze HFRq.out;have HKQ:Hid (Kp (λ_=>False) w wq):=((HK.out.trans HK5.out (λ_ _ h=>h)).trans (Kp.alloc (λ_=>False) w5 (.cells #[.slice (some ⟨g1,0,none⟩) f1.length c1] 48)) (λ_ _ h=>h)).trans hkq (λb hb e=>by have:=(HFR0.out.row.lt b e).1;omega);have HCQ:Hid (wq.cell? ⟨gq,fs1.length,none⟩=some (.slice (some ⟨g1,0,none⟩) f1.length c1)):=(by have hc:=World.ownsRow.cells HFRq.out.row (g:=gq) rfl lv.length (.slice (some ⟨g1,0,none⟩) f1.length c1) (by simp);rw[zub,Nat.zero_add,HFR0.out.len]at hc;exact hc);have HUQ:=ze (HFRq.out.at_ lv.length (.slice (some ⟨g1,0,none⟩) f1.length c1) f1 (by simp) (by rw[HFR0.out.len];simp));have HGQ:Hid (w.heap.size≤gq):=(HFRq.out.row.lt gq rfl).1;have hub1:=(HKQ.out.cell (a:=⟨ga,oa+i,none⟩) (World.block_lt_of_cell? _ _ HUB1.out) (λe=>e)).trans HUB1.out;have HXB:=ze (HUB2.out.kept HKQ.out);clear hrowq hkq hlocq HFRq)
     |(go_at_call 166;refine zjw _ b _ (by have:=HBL.out;omega) HBN.out HXB.out (λv6 w6 hb6 hk6=>?_);obtain⟨g6,c6,rfl⟩:=hb6.form (by simp[zqb,z8c]);have HX6:=ze hb6;have HK6:=ze hk6;have z0:=(hk6.cell (a:=⟨gq,fs1.length,none⟩) (World.block_lt_of_cell? _ _ HCQ.out) (λe=>e)).trans HCQ.out;have HFR6:=ze (HFR.out.kept hk6);have HU6:=ze (HUQ.out.kept hk6);clear hb6 hk6)
     |(at_builtin;refine zsb _ rfl _ _ rfl w.heap.size _ f1 rfl HU6.out _ (zqb b) rfl HX6.out.rd (by simp[zqb,z8c]) (by rw[zzd];have:=HBL.out;have:=HF1L.out;omega) (by have:=HKQ.out.size;have:=HK6.out.size;omega) ?_;intro v7 w7 hb7 hk7 hloc7;obtain⟨g7,c7,rfl⟩:=hb7.form (by simp[zqb,z8c]);have HLG0:=ze (HFR6.out.longer rfl hb7 hk7 hloc7);have HK7:=ze hk7;have hne7:¬(Value.slice (some ⟨g1,0,none⟩) f1.length c1).ownBlock=some gq:=(λe=>z7 HFR6.out.row HU6.out (by decide) gq rfl e);have z1:=(hk7.cell (a:=⟨gq,fs1.length,none⟩) (World.block_lt_of_cell? _ _ z0) hne7).trans z0;have hfz:w7.frozen? ⟨gq,fs1.length,none⟩=false:=(by obtain⟨cur,hq⟩:=zjp HFR6.out.row (b:=gq) rfl;exact zj ((hk7.block gq (zh hq) hne7).trans hq) _);obtain⟨N7,hN7⟩:∃N,(f1++zqb b).length=N:=⟨_,rfl⟩;(rw[hN7]at HLG0 ⊢);have HLG:=ze HLG0.out;clear hb7 hk7 hloc7 HLG0 hne7 hN7)
     |go_in)
    go_roundw
    case rel=>
     refine⟨i+1,lv++[.slice (some ⟨g7,0,none⟩) N7 c7],by omega,by go_num,?_,?_⟩
     ·exact (((HKQ.out.trans HK6.out (λ_ _ h=>h)).trans HK7.out (λb hb e=>by have:=(HU6.out.lt b e).1;omega)).trans (Kp.setCell (S:=λb=>b=gq) _ _ _ rfl) (λb hb (e:b=gq)=>by have:=HGQ.out;omega))
     ·rw[HNX.out]
      exact HLG.out
    case measure=>simp[intOf];omega
   ·have d4:((i:Int) % 4 == 0)=false:=by simp;omega
    have hne:zm (lg.take i)≠[]:=z7i (by rw[List.length_take,Nat.min_eq_left (by omega)];exact h4)
    obtain⟨fs1,f1,hfs⟩:∃fs1 f1,zm (lg.take i)=fs1++[f1]:=⟨_,_,(List.dropLast_concat_getLast hne).symm⟩
    have hf1n:f1≠[]:=(z8i (lg.take i) (by rw[List.length_take];have:=HL.out;omega) (λx hx=>(HB.out x (List.mem_of_mem_take hx)).2) f1 (by rw[hfs];simp)).1
    have HF1L:Hid (f1.length≤3000000):=Nat.le_trans (z3e (fs:=zm (lg.take i)) (by rw[hfs];simp)) (by have:=HBB.out;omega)
    rw[hfs]at hnx hfl HFR0 HBB ⊢
    have HNX:Hid (zm (lg.take (i+1))=fs1++[f1++zqb b]):=by
     show _=_
     rw[hnx]
     unfold zrg
     rw[if_neg h4]
     simp
    have hlv:lv≠[]:=λe=>by have:=HFR0.out.len;rw[e]at this;simp at this
    obtain⟨lv1,u1,rfl⟩:∃lv1 u1,lv=lv1++[u1]:=⟨_,_,(List.dropLast_concat_getLast hlv).symm⟩
    have hl1:lv1.length=fs1.length:=by have:=HFR0.out.len;simpa using this
    have huq:BR w.heap.size wr u1 f1:=HFR0.out.at_ lv1.length u1 f1 (by simp) (by rw[hl1];simp)
    obtain⟨g1,c1,rfl⟩:=huq.form hf1n
    have HUQ:=ze huq
    obtain⟨gq,cq,_,eq,_,_⟩:=zib HFR0.out.row (by simp)
    injection eq with eqa eqb eqc
    subst eqa
    clear eqb eqc
    have hll:(fs1++[f1]).length=fs1.length+1:=by simp
    rw[hll]at HFR0 hfl ⊢
    have HFR:=ze HFR0.out
    have HKQ:=ze HK.out
    have HCQ:Hid (wr.cell? ⟨gq,fs1.length,none⟩=some (.slice (some ⟨g1,0,none⟩) f1.length c1)):=by
     have hc:=World.ownsRow.cells HFR.out.row (g:=gq) rfl lv1.length (.slice (some ⟨g1,0,none⟩) f1.length c1) (by simp)
     rw[zub,Nat.zero_add,hl1]at hc
     exact hc
    have HGQ:Hid (w.heap.size≤gq):=(HFR.out.row.lt gq rfl).1
    have hub1:=(HKQ.out.cell (a:=⟨ga,oa+i,none⟩) (World.block_lt_of_cell? _ _ HUB1.out) (λe=>e)).trans HUB1.out
    have HXB:=ze (HUB2.out.kept HKQ.out)
    have hfl':(fs1.length:Int)≤2000:=by have:=HL.out;omega
    clear hne hfs hf1n hnx hlv hl1 huq hll hfl HFR0 h4
    go_wp2_with (first
     |(go_at_call 166;refine zjw _ b _ (by have:=HBL.out;omega) HBN.out HXB.out (λv6 w6 hb6 hk6=>?_);obtain⟨g6,c6,rfl⟩:=hb6.form (by simp[zqb,z8c]);have HX6:=ze hb6;have HK6:=ze hk6;have z0:=(hk6.cell (a:=⟨gq,fs1.length,none⟩) (World.block_lt_of_cell? _ _ HCQ.out) (λe=>e)).trans HCQ.out;have HFR6:=ze (HFR.out.kept hk6);have HU6:=ze (HUQ.out.kept hk6);clear hb6 hk6)
     |(at_builtin;refine zsb _ rfl _ _ rfl w.heap.size _ f1 rfl HU6.out _ (zqb b) rfl HX6.out.rd (by simp[zqb,z8c]) (by rw[zzd];have:=HBL.out;have:=HF1L.out;omega) (by have:=HKQ.out.size;have:=HK6.out.size;omega) ?_;intro v7 w7 hb7 hk7 hloc7;obtain⟨g7,c7,rfl⟩:=hb7.form (by simp[zqb,z8c]);have HLG0:=ze (HFR6.out.longer rfl hb7 hk7 hloc7);have HK7:=ze hk7;have hne7:¬(Value.slice (some ⟨g1,0,none⟩) f1.length c1).ownBlock=some gq:=(λe=>z7 HFR6.out.row HU6.out (by decide) gq rfl e);have z1:=(hk7.cell (a:=⟨gq,fs1.length,none⟩) (World.block_lt_of_cell? _ _ z0) hne7).trans z0;have hfz:w7.frozen? ⟨gq,fs1.length,none⟩=false:=(by obtain⟨cur,hq⟩:=zjp HFR6.out.row (b:=gq) rfl;exact zj ((hk7.block gq (zh hq) hne7).trans hq) _);obtain⟨N7,hN7⟩:∃N,(f1++zqb b).length=N:=⟨_,rfl⟩;(rw[hN7]at HLG0 ⊢);have HLG:=ze HLG0.out;clear hb7 hk7 hloc7 HLG0 hne7 hN7)
     |go_in)
    go_roundw
    case rel=>
     refine⟨i+1,lv1++[.slice (some ⟨g7,0,none⟩) N7 c7],by omega,by go_num,?_,?_⟩
     ·exact (((HKQ.out.trans HK6.out (λ_ _ h=>h)).trans HK7.out (λb hb e=>by have:=(HU6.out.lt b e).1;omega)).trans (Kp.setCell (S:=λb=>b=gq) _ _ _ rfl) (λb hb (e:b=gq)=>by have:=HGQ.out;omega))
     ·rw[HNX.out]
      exact HLG.out
    case measure=>simp[intOf];omega
  ·have hie:i=lg.length:=by omega
   subst hie
   have hfin:=hfr
   rw[List.take_length]at hfin
   rw[List.take_length]
   have HF:=ze (HR.out _ _ _ hfin hkp)
   clear hfin hfr hkp HFR0
   generalize (zm lg).length=nn at HF hfl ⊢
   go_wp2_with fail
   exact HF.out
end
end
end Go.Proofs.YthbdpfccfcceiaaGreatDoor
