/-
  Of the proof of logsUpto_card.
-/
import Derived.Test.YthbdpfccfcceiaaGreatDoorF17x
import Derived.Test.YthbdpfccfcceiaaGreatDoorZ2x
namespace Go.Proofs.YthbdpfccfcceiaaGreatDoor
section
open Go.RowKit Go.Maps Go.Lib
def zke (s:XS)(k t:Nat):Bool:=if k=72 then decide (s.hor<(t:Int)) && decide ((t:Int)≤s.now) else decide ((t:Int)=s.now+1) && decide (s.now<2000)
section
variable {own own':Nat→Lab}{c:Nat}{w w':World}{p:Nat}{s:XS}{mo ph mv mm:Nat}{pt mw:Int→Nat}{sl:ByteArray→Value}
variable {R:Ending→World→Prop}
set_option maxRecDepth 20000 in
set_option maxHeartbeats 1000000 in
theorem zbm (h:XR own c w p s mo ph mv mm pt mw sl)(hn:0≤s.now∧s.now≤2000)(k t:Nat)(hk:k<256)(a:Option Addr)(n cu:Nat)
  (hR:∀w',Kp (λ_=>False) w w'→R (.returned (.bool (zke s k t))) w') :
  Calls Tryz.prog 76 #[.pointer (some ⟨p,0,none⟩),.agg #[.int .u8 k,.int .i64 t,.slice a n cu]] w R:=by
 have kA:=Kp.alloc (λ_=>False) w (.cells #[.int .u8 k,.int .i64 t,.slice a n cu] 110)
 have hA:=h.kept kA
 have c1:(w.alloc (.cells #[.int .u8 k,.int .i64 t,.slice a n cu] 110)).cell? ⟨p,1,none⟩=some (.int .i64 s.hor):=zg hA.store 1
 have c2:(w.alloc (.cells #[.int .u8 k,.int .i64 t,.slice a n cu] 110)).cell? ⟨p,2,none⟩=some (.int .i64 s.now):=zg hA.store 2
 have bA:=heap_alloc_new w (.cells #[.int .u8 k,.int .i64 t,.slice a n cu] 110)
 have d0:(w.alloc (.cells #[.int .u8 k,.int .i64 t,.slice a n cu] 110)).cell? ⟨w.heap.size,0,none⟩=some (.int .u8 k):=zg bA 0
 have d1:(w.alloc (.cells #[.int .u8 k,.int .i64 t,.slice a n cu] 110)).cell? ⟨w.heap.size,1,none⟩=some (.int .i64 t):=zg bA 1
 have hw:IntKind.i64.wrap (s.now+1)=s.now+1:=IntWalk.i64_in _ (by omega)
 have hw':wrap64 (s.now+1)=s.now+1:=IntWalk.i64_left _ ▸ hw
 have HR:=ze hR
 have KA:=ze kA
 have fin:∀b:Bool,zke s k t=b→∀w',Kp (λ_=>False) (w.alloc (.cells #[.int .u8 k,.int .i64 t,.slice a n cu] 110)) w'→R (.returned (.bool b)) w':=λb e w' k'=>e ▸ HR.out w' (KA.out.trans k' (λ_ _ h=>h))
 have FIN:=ze fin
 clear h hR hA kA bA fin
 generalize hAA:w.alloc (.cells #[.int .u8 k,.int .i64 t,.slice a n cu] 110)=A at c1 c2 d0 d1 FIN KA
 have hk':(k:Int)<256:=by omega
 by_cases q:k=72
 ·have q':((k:Int) == 72)=true:=by simp[q]
  by_cases q1:s.hor<(t:Int)
  ·have e1:decide (s.hor<(t:Int))=true:=by simpa using q1
   by_cases q2:(t:Int)≤s.now
   ·have e2:decide ((t:Int)≤s.now)=true:=by simpa using q2
    have HF:=ze (FIN.out true (by simp[zke,q,q1,q2]))
    clear q q1 q2
    go_enter Tryz.func76,Tryz.ntmps76
    go_wp2_with fail
    go_quiet (fail)
    all_goals go_wp2_with fail
    all_goals exact HF.out _ (Kp.drewN _ _ _)
   ·have e2:decide ((t:Int)≤s.now)=false:=by simpa using q2
    have HF:=ze (FIN.out false (by simp[zke,q,q1,q2]))
    clear q q1 q2
    go_enter Tryz.func76,Tryz.ntmps76
    go_wp2_with fail
    go_quiet (fail)
    all_goals go_wp2_with fail
    all_goals exact HF.out _ (Kp.drewN _ _ _)
  ·have e1:decide (s.hor<(t:Int))=false:=by simpa using q1
   have HF:=ze (FIN.out false (by simp[zke,q,q1]))
   clear q q1
   go_enter Tryz.func76,Tryz.ntmps76
   go_wp2_with fail
   go_quiet (fail)
   all_goals go_wp2_with fail
   all_goals exact HF.out _ (Kp.drewN _ _ _)
 ·have q':((k:Int) == 72)=false:=by simp;omega
  by_cases q1:(t:Int)=s.now+1
  ·have e1:((t:Int) == s.now+1)=true:=by simpa using q1
   by_cases q2:s.now<2000
   ·have e2:decide (s.now<2000)=true:=by simpa using q2
    have HF:=ze (FIN.out true (by simp[zke,q,q1,q2]))
    clear q q1 q2
    go_enter Tryz.func76,Tryz.ntmps76
    go_wp2_with fail
    go_quiet (fail)
    all_goals go_wp2_with fail
    all_goals exact HF.out _ (Kp.drewN _ _ _)
   ·have e2:decide (s.now<2000)=false:=by simpa using q2
    have HF:=ze (FIN.out false (by simp[zke,q,q1,q2]))
    clear q q1 q2
    go_enter Tryz.func76,Tryz.ntmps76
    go_wp2_with fail
    go_quiet (fail)
    all_goals go_wp2_with fail
    all_goals exact HF.out _ (Kp.drewN _ _ _)
  ·have e1:((t:Int) == s.now+1)=false:=by simpa using q1
   have HF:=ze (FIN.out false (by simp[zke,q,q1]))
   clear q q1
   go_enter Tryz.func76,Tryz.ntmps76
   go_wp2_with fail
   go_quiet (fail)
   all_goals go_wp2_with fail
   all_goals exact HF.out _ (Kp.drewN _ _ _)
end
end
section
open Go.RowKit Go.Maps Go.Lib
theorem RS.take_app (l r:List UInt8)(n:Nat)(hn:l.length=n):(⟨l++r,false⟩:RS).take n=(some l,⟨r,false⟩):=by
 subst hn
 simp[RS.take]
theorem RS.one_cons (b:UInt8)(r:List UInt8):(⟨b::r,false⟩:RS).one=(b.toNat,⟨r,false⟩):=by
 have h:=RS.take_app [b] r 1 rfl
 unfold RS.one
 rw[show (b::r)=[b]++r from rfl,h]
 rfl
theorem znh (t:Nat)(ht:t<4294967296):le4 (fourB t)=t:=by
 unfold le4 fourB
 simp only[List.getD_cons_zero,List.getD_cons_succ,z2d]
 omega
theorem RS.four_app (t:Nat)(ht:t<4294967296)(r:List UInt8):(⟨fourB t++r,false⟩:RS).four=(t,⟨r,false⟩):=by
 have h:=RS.take_app (fourB t) r 4 rfl
 unfold RS.four
 rw[h]
 simp only[znh t ht]
theorem zop (x:ByteArray):z7b x.data.toList=x:=by
 cases x;rfl
theorem RS.text_app (x:ByteArray)(hx:x.size≤255)(r:List UInt8):(⟨zac x++r,false⟩:RS).text=(x.data.toList,⟨r,false⟩):=by
 have h1:=RS.one_cons (u8 x.size) (x.data.toList++r)
 have e:(u8 x.size).toNat=x.size:=by rw[z2d];omega
 rw[e]at h1
 have h2:=RS.take_app x.data.toList r x.size rfl
 unfold RS.text
 rw[show zac x++r=u8 x.size::(x.data.toList++r) from rfl,h1]
 simp only[h2,Option.getD_some]
theorem RS.key_app (x:ByteArray)(hx:zu x=true)(r:List UInt8):(⟨zac x++r,false⟩:RS).key=(x,⟨r,false⟩):=by
 have h8:=z1d x hx
 unfold RS.key
 rw[RS.text_app x (by omega)]
 simp[zop,hx]
theorem RS.ver_app (v:ByteArray × Bool)(hv:v.1.size≤20)(he:v.2=true→v.1=eb)(r:List UInt8):(⟨zlg v++r,false⟩:RS).ver=(v,⟨r,false⟩):=by
 obtain⟨x,g⟩:=v
 cases g with
 |true=>
  have:x=eb:=he rfl
  subst this
  have h:=RS.one_cons 1 r
  unfold RS.ver
  rw[show zlg (eb,true)++r=1::r from rfl,h]
  rfl
 |false=>
  have h:=RS.one_cons 0 (zac x++r)
  have hv':x.size≤20:=hv
  unfold RS.ver
  rw[show zlg (x,false)++r=0::(zac x++r) from rfl,h]
  simp[RS.text_app x (by omega),zop,hv']
def okW (x:ByteArray × ByteArray × Bool):Prop:=zu x.1=true∧x.2.1.size≤20∧(x.2.2=true→x.2.1=eb)
theorem RS.writes_app (ws:List (ByteArray × ByteArray × Bool))(h:∀x∈ws,okW x)(r:List UInt8):∀k,k≤ws.length→(⟨ws.flatMap z9b++r,false⟩:RS).writes k=(ws.take k,⟨(ws.drop k).flatMap z9b++r,false⟩)
 |0,_=>by simp[RS.writes]
 |k+1,hk=>by
  have ih:=RS.writes_app ws h r k (by omega)
  obtain⟨x,hx⟩:∃x,ws[k]?=some x:=⟨ws[k],List.getElem?_eq_getElem (by omega)⟩
  obtain⟨hk2,hx2⟩:=List.getElem?_eq_some_iff.1 hx
  have hxw:=h x (List.mem_of_getElem? hx)
  have hd:ws.drop k=x::ws.drop (k+1):=by rw[← hx2];exact (List.getElem_cons_drop ..).symm
  have e:(ws.drop k).flatMap z9b++r=zac x.1++(zlg x.2++((ws.drop (k+1)).flatMap z9b++r)):=by
   rw[hd];simp[z9b]
  show ((RS.writes _ k).1++[((RS.writes _ k).2.key.1,(RS.writes _ k).2.key.2.ver.1)],(RS.writes _ k).2.key.2.ver.2)=_
  rw[ih]
  dsimp only
  rw[e,RS.key_app x.1 hxw.1]
  dsimp only
  rw[RS.ver_app x.2 hxw.2.1 hxw.2.2]
  rw[List.take_succ_eq_append_getElem hk2,hx2]
theorem zmj (c r:List UInt8):zlc (z8c c++r) c.length=some (c,r):=by
 have h1:(z8c c++r).take c.length=c:=by simp[z8c]
 have h2:((z8c c++r).drop c.length).take 4=fourB (z5c c):=by
  simp only[z8c,List.append_assoc,List.drop_left]
  rw[List.take_append_of_le_length (by simp[zmb])]
  exact List.take_of_length_le (by simp[zmb])
 have h3:(z8c c++r).drop (c.length+4)=r:=by
  rw[← zbg,List.drop_left]
 unfold zlc
 rw[h1,h2,h3,znh _ (zph c)]
 rw[if_neg]
 rintro (h|h)
 ·rw[List.length_append,zbg]at h;omega
 ·exact h rfl
end
section
open Go.RowKit Go.Maps Go.Lib
theorem RS.take_wr {s:RS}{n:Nat}(h:(s.take n).2.wr=false):s.wr=false:=by
 unfold RS.take at h
 split at h
 ·cases h
 ·rename_i hq
  cases hw:s.wr with
  |false=>rfl
  |true=>exact absurd (Or.inl hw) hq
theorem RS.one_wr {s:RS}(h:s.one.2.wr=false):s.wr=false:=RS.take_wr h
theorem RS.text_wr {s:RS}(h:s.text.2.wr=false):s.wr=false:=RS.one_wr (RS.take_wr h)
theorem RS.key_wr {s:RS}(h:s.key.2.wr=false):s.wr=false∧zu s.key.1=true:=by
 unfold RS.key at h ⊢
 dsimp only at h ⊢
 split at h
 ·rename_i hk
  exact⟨RS.text_wr h,hk⟩
 ·cases h
theorem RS.ver_wr {s:RS}(h:s.ver.2.wr=false):s.wr=false∧s.ver.1.1.size≤20∧(s.ver.1.2=true→s.ver.1.1=eb):=by
 by_cases q0:s.one.1=0
 ·have e:s.ver=((z7b s.one.2.text.1,false),if (z7b s.one.2.text.1).size≤20 then s.one.2.text.2 else s.one.2.text.2.bad):=by unfold RS.ver;rw[if_pos q0]
  rw[e]at h ⊢
  dsimp only at h ⊢
  split at h
  ·rename_i hq
   exact⟨RS.one_wr (RS.text_wr h),hq,λe=>by cases e⟩
  ·cases h
 ·by_cases q1:s.one.1=1
  ·have e:s.ver=((eb,true),s.one.2):=by unfold RS.ver;rw[if_neg q0,if_pos q1]
   rw[e]at h ⊢
   exact⟨RS.one_wr h,by show eb.size≤20;decide,λ_=>rfl⟩
  ·have e:s.ver=((eb,false),s.one.2.bad):=by unfold RS.ver;rw[if_neg q0,if_neg q1]
   rw[e]at h
   cases h
theorem RS.writes_ok {s:RS}:∀{n:Nat},(s.writes n).2.wr=false→∀x∈(s.writes n).1,okW x
 |0,_,x,hx=>by cases hx
 |n+1,h,x,hx=>by
  have h1:=RS.ver_wr h
  have h2:=RS.key_wr h1.1
  rcases List.mem_append.1 hx with hx|hx
  ·exact RS.writes_ok h2.1 x hx
  ·rw[List.mem_singleton]at hx
   subst hx
   exact⟨h2.2,h1.2⟩
def zdg (k:Nat)(ws:List W3):Prop:=(k=72∧ws=[])∨(k=67∧(ws.map Prod.fst).Pairwise blt∧1≤ws.length∧ws.length≤10∧∀x∈ws,okW x)
theorem z4d.ok {body:List UInt8}{k t:Nat}{ws:List W3}(h:z4d body k t ws):zdg k ws:=by
 rcases h with ⟨h1,_,_,h2,_⟩|⟨h1,_,_,h2,h3,h4,h5,h6⟩
 ·exact Or.inl ⟨h1,h2⟩
 ·refine Or.inr ⟨h1,h4,h5,h6,?_⟩
  rw[h2]
  refine RS.writes_ok ?_
  have:(zdh body).2.done=true:=h3
  unfold RS.done at this
  simp at this
  exact this.1
theorem znd.ok:∀{l:List zcd} {bs rest:List UInt8},znd bs l rest→∀r∈l,zdg r.k r.ws
 |[],_,_,_,r,hr=>by cases hr
 |a::l,bs,rest,⟨m,⟨_,c,_,hc⟩,h2⟩,r,hr=>by
  rcases List.mem_cons.1 hr with rfl|hr
  ·exact hc.ok
  ·exact znd.ok h2 r hr
theorem zyj {l:List ByteArray}(h:l.Pairwise blt):l.Nodup:=h.imp (λ{a b} hab e=>by subst e;exact zic _ hab)
def Did (r:zcd)(s s':XS):Prop:=
 ∃l:XL,l.sy=s.log.sy∧((r.k=72∧l.lg=s.log.lg++[zxb r.t]∧s'={ s with hor:=r.t,log:=l })∨
  (r.k≠72∧l.lg=s.log.lg++[zbb r.t r.ws]∧∃nv nm,nv≤s.nv+r.ws.length∧nm≤s.nm+r.ws.length∧s'=zqd { s with log:=l } ⟨0,wrL r.ws,0⟩ (λ_=>false) nv nm))
def zme:List zcd→XS→XS→Prop
 |[],s,s'=>s'=s
 |r::l,s,s'=>zke s r.k r.t=true∧∃s1,Did r s s1∧zme l s1 s'
theorem zme.snoc {r:zcd}{s2:XS}:∀{l:List zcd} {s s1:XS},zme l s s1→zke s1 r.k r.t=true→Did r s1 s2→zme (l++[r]) s s2
 |[],s,s1,h,hm,hd=>by
  have h:s1=s:=h
  subst h
  exact⟨hm,s2,hd,rfl⟩
 |a::l,s,s1,⟨h1,q,h2,h3⟩,hm,hd=>⟨h1,q,h2,zme.snoc h3 hm hd⟩
section
variable {s s':XS}
theorem z2v {ws:List W3}{k:ByteArray}(h:(wrL ws k).isSome=true):∃x∈ws,x.1=k:=by
 rw[zrk,List.any_eq_true]at h
 obtain⟨x,hx,e⟩:=h
 exact⟨x,hx,by simpa using e⟩
theorem z7j {t:Nat}{ws:List W3}(h:∀x∈ws,okW x)(hl:ws.length≤10):(zbb t ws).length≤400:=by
 have:=zch t ws (λx hx=>⟨z1d x.1 (h x hx).1,(h x hx).2.1⟩)
 omega
theorem XOk.did (ok:XOk s)(hno:∀n,s.txs n=none){r:zcd}(hr:zdg r.k r.ws)(hm:zke s r.k r.t=true)(hd:Did r s s'):XOk s'∧(∀n,s'.txs n=none)∧s'.bk=s.bk∧s'.begun=s.begun:=by
 obtain⟨l,hsy,h⟩:=hd
 have a1:=ok.now
 have a2:=ok.hor
 have a3:=ok.lgl
 rcases h with ⟨hk,hlg,rfl⟩|⟨hk,hlg,nv,nm,hnv,hnm,rfl⟩
 ·simp only[zke,hk,if_true,Bool.and_eq_true,decide_eq_true_eq]at hm
  refine⟨⟨a1,⟨by show 0≤(r.t:Int);omega,hm.2⟩,ok.begun,ok.up,ok.mom,ok.ver,ok.key,λn x e=>?_,ok.nm,ok.nv,?_,λb hb=>?_,?_⟩,hno,rfl,rfl⟩
  ·have e':s.txs n=some x:=e
   rw[hno]at e';cases e'
  ·show (l.lg.length:Int)≤s.now+r.t
   rw[hlg];simp;omega
  ·have hb':b∈l.lg:=hb
   rw[hlg]at hb'
   rcases List.mem_append.1 hb' with h3|h3
   ·exact ok.lgb b h3
   ·rw[List.mem_singleton]at h3;subst h3;rw[z6e];omega
  ·show l.sy≤bytesOf (zm l.lg)
   rw[hlg,hsy]
   exact Nat.le_trans ok.sy (z8e _ _)
 ·rcases hr with ⟨h1,_⟩|⟨h1,hpw,hl1,hl2,hok⟩
  ·exact absurd h1 hk
  ·rw[zke,if_neg hk]at hm
   simp only[Bool.and_eq_true,decide_eq_true_eq]at hm
   have hw:∀k,(wrL r.ws k).isSome=true→zu k=true:=λk h=>by
    obtain⟨x,hx,rfl⟩:=z2v h
    exact (hok x hx).1
   refine⟨⟨⟨by show 0≤s.now+1;omega,by show s.now+1≤2000;omega⟩,⟨a2.1,by show s.hor≤s.now+1;omega⟩,ok.begun,λk=>?_,λk m hm'=>?_,λk m=>?_,λk hk'=>?_,λn t1 e1=>?_,?_,?_,?_,λb hb=>?_,?_⟩,hno,rfl,rfl⟩
   ·simp only[zqd,Bool.not_false,Bool.and_true]
    split
    ·rw[List.pairwise_append]
     exact⟨ok.up k,by simp,λa ha b hb=>by simp at hb;have:=ok.mom k a ha;omega⟩
    ·exact ok.up k
   ·simp only[zqd,Bool.not_false,Bool.and_true]at hm' ⊢
    split at hm'
    ·rcases List.mem_append.1 hm' with h1|h1
     ·have:=ok.mom k m h1;omega
     ·simp at h1;omega
    ·have:=ok.mom k m hm';omega
   ·simp only[zqd,Bool.not_false,Bool.and_true]
    by_cases hwk:(wrL r.ws k).isSome=true
    ·rw[if_pos hwk]
     by_cases em:m=s.now+1
     ·subst em;simp[hwk]
     ·simp only[em,false_and,if_false,List.mem_append,List.mem_singleton,or_false]
      exact ok.ver k m
    ·rw[if_neg hwk,if_neg (λh=>hwk h.2)]
     exact ok.ver k m
   ·simp only[zqd,Bool.not_false,Bool.and_true]at hk'
    split at hk'
    ·rename_i hwk;exact hw k hwk
    ·exact ok.key k hk'
   ·have e':s.txs n=some t1:=e1
    rw[hno]at e';cases e'
   ·have:=ok.nm
    show (nm:Int)≤10*(s.now+1)
    omega
   ·have:=ok.nv
    show (nv:Int)≤10*(s.now+1)
    omega
   ·show (l.lg.length:Int)≤s.now+1+s.hor
    rw[hlg];simp;omega
   ·have hb':b∈l.lg:=hb
    rw[hlg]at hb'
    rcases List.mem_append.1 hb' with h3|h3
    ·exact ok.lgb b h3
    ·rw[List.mem_singleton]at h3;subst h3;exact z7j hok hl2
   ·show l.sy≤bytesOf (zm l.lg)
    rw[hlg,hsy]
    exact Nat.le_trans ok.sy (z8e _ _)
end
end
section
open Go.RowKit Go.Maps Go.Lib
section
variable {own own':Nat→Lab}{c:Nat}{w w':World}{p:Nat}{s:XS}
variable {R:Ending→World→Prop}
theorem zx0 (h:XE own c w p s)(ok:XOk s)(hT:Tab w)(hN:zid own c)(r:zcd)(hr:zdg r.k r.ws)(hlt:r.t<4294967296)(hhor:r.k=72→r.u = .slice none 0 0){base:Nat}(hw:WR base w r.u r.ws)(hown:∀b,r.u.ownBlock=some b→(own b).c≠c)(hm:zke s r.k r.t=true)
  (hR:∀w' own' s',Kp (λb=>(own b).c=c) w w'→(∀b,b<w.heap.size→own' b=own b)→XE own' c w' p s'→Did r s s'→R (.returned (.tuple #[])) w') :
  Calls Tryz.prog 46 #[.pointer (some ⟨p,0,none⟩),.agg #[.int .u8 r.k,.int .i64 r.t,r.u]] w R:=by
 obtain⟨mo,ph,mv,mm,pt,mw,sl,h⟩:=h
 have a1:=ok.now
 have a2:=ok.hor
 have a3:=ok.lgl
 have a4:=ok.nv
 have a5:=ok.nm
 by_cases hk:r.k=72
 ·rw[hk,hhor hk]
  refine zbs h hT hN r.t hlt (by omega) ok.lgb (λw' own' l' k ho hlg hsy hx=>hR w' own' _ k ho ⟨mo,ph,mv,mm,pt,mw,sl,hx⟩ ⟨l',hsy,Or.inl ⟨hk,hlg,rfl⟩⟩)
 ·rcases hr with ⟨h1,_⟩|⟨h1,hpw,hl1,hl2,hok⟩
  ·exact absurd h1 hk
  ·rw[h1]
   rw[zke,if_neg hk]at hm
   simp only[Bool.and_eq_true,decide_eq_true_eq]at hm
   have hu:r.u.oneCell'=true:=by
    obtain⟨a,cap,e⟩:=zp hw
    rw[e];rfl
   refine zam h hT hN r.u r.ws hu hw.rd (λe=>by rw[e]at hl1;simp at hl1) (zyj hpw) hl2 (λx hx=>⟨z1d x.1 (hok x hx).1,(hok x hx).2.1⟩) hown (by omega) ok.lgb ⟨a1.1,hm.2⟩ (λk=>by have:=ok.len k;omega) (by omega) (by omega) r.t hm.1 (λw' own' sl' l' nv nm k ho hlg hsy hnv hnm hx=>hR w' own' _ k ho ⟨mo,ph,mv,mm,pt,mw,sl',hx⟩ ⟨l',hsy,Or.inr ⟨hk,hlg,nv,nm,hnv,hnm,rfl⟩⟩)
theorem z60 {α:Type}(f:α→List Value)(hf:∀a,(f a).length=3):∀(l:List α) (i:Nat) (a:α),l[i]?=some a→∀j,j<3→(l.flatMap f)[i*3+j]?=(f a)[j]?
 |[],_,_,h,_,_=>by simp at h
 |y::r,0,a,h,j,hj=>by
  simp at h
  subst h
  rw[List.flatMap_cons,List.getElem?_append_left (by rw[hf];omega)]
  simp
 |y::r,i+1,a,h,j,hj=>by
  have ih:=z60 f hf r i a (by simpa using h) j hj
  rw[List.flatMap_cons,List.getElem?_append_right (by rw[hf];omega),hf]
  rw[show (i+1)*3+j-3=i*3+j by omega]
  exact ih
theorem zeg.kp {base:Nat}{v:Value}{l:List zcd}{S:Nat→Prop}(h:zeg base w v l)(k:Kp S w w')(hs:∀b,base≤b→b<w.heap.size→¬S b):zeg base w' v l:=
 ⟨zi h.row k (λb e=>hs b (h.row.lt b e).1 (h.row.lt b e).2),λr hr=>zi (h.wr r hr) k (λb e=>hs b ((h.wr r hr).lt b e).1 ((h.wr r hr).lt b e).2),h.hor,h.lt⟩
theorem zeg.cell {base g n cap:Nat}{l:List zcd}(h:zeg base w (.slice (some ⟨g,0,none⟩) n cap) l){i:Nat}{r:zcd}(hi:l[i]?=some r) :
  w.cell? ⟨g,i*3,none⟩=some (.int .u8 r.k)∧w.cell? ⟨g,i*3+1,none⟩=some (.int .i64 r.t)∧w.cell? ⟨g,i*3+2,none⟩=some r.u:=by
 have hc:=World.ownsRow.cells h.row (g:=g) rfl
 have hf:=z60 zcd.cells (λ_=>rfl) l i r hi
 refine⟨?_,?_,?_⟩
 ·have:=hc (i*3+0) _ (hf 0 (by omega))
  rw[zub,Nat.zero_add]at this
  exact this
 ·have:=hc (i*3+1) _ (hf 1 (by omega))
  rw[zub,Nat.zero_add]at this
  exact this
 ·have:=hc (i*3+2) _ (hf 2 (by omega))
  rw[zub,Nat.zero_add]at this
  exact this
def z2f (bs:List UInt8)(num:Nat)(s s':XS)(b:Bool):Prop:=
 (z6d bs≠some num∧s'=s∧b=false)∨∃l rest,z7v bs num l rest∧
  ((∃(i:Nat) (r:zcd),l[i]?=some r∧zme (l.take i) s s'∧zke s' r.k r.t=false∧b=false)∨(zme l s s'∧b=(decide (rest=[]) && decide (l.length=4))))
structure zcu (own:Nat→Lab)(c:Nat)(w1:World)(p:Nat)(s:XS)(l:List zcd)(i:Nat)(wr:World)(own':Nat→Lab)(s':XS):Prop where
 x:XE own' c wr p s'
 ok:XOk s'
 txs:∀n,s'.txs n=none
 bk:s'.bk=s.bk
 beg:s'.begun=s.begun
 done:zme (l.take i) s s'
 kp:Kp (λb=>(own b).c=c) w1 wr
 old:∀b,b<w1.heap.size→own' b=own b
end
end
section
open Go.RowKit Go.Maps Go.Lib
section
variable {own own':Nat→Lab}{c:Nat}{w w':World}{p:Nat}{s:XS}
variable {R:Ending→World→Prop}
theorem zcu.step {own:Nat→Lab}{w1 wr w3:World}{l:List zcd}{i:Nat}{own3:Nat→Lab}{s1 s3:XS}{r:zcd}(h:zcu own c w1 p s l i wr own' s1)(hi:l[i]?=some r)(hr:zdg r.k r.ws)(hm:zke s1 r.k r.t=true)
  {w2:World} (k2:Kp (λ_=>False) wr w2) (k3:Kp (λb=>(own' b).c=c) w2 w3) (ho:∀b,b<w2.heap.size→own3 b=own' b) (hx:XE own3 c w3 p s3) (hd:Did r s1 s3):zcu own c w1 p s l (i+1) w3 own3 s3:=by
 obtain⟨h1,h2,h3,h4⟩:=h.ok.did h.txs hr hm hd
 have hlt:i<l.length:=(List.getElem?_eq_some_iff.1 hi).1
 refine⟨hx,h1,h2,h3.trans h.bk,h4.trans h.beg,?_,(h.kp.trans (k2.mono (S':=λb=>(own b).c=c) (λ_ _ e=>e.elim)) (λ_ _ e=>e)).trans k3 (λb hb e=>?_),λb hb=>?_⟩
 ·have e:l.take (i+1)=l.take i++[r]:=by
   rw[List.take_succ_eq_append_getElem hlt,(List.getElem?_eq_some_iff.1 hi).2]
  rw[e]
  exact h.done.snoc hm hd
 ·have hb':own' b=own b:=h.old b hb
  rw[hb']at e
  exact e
 ·have:=h.kp.size
  have:=k2.size
  rw[ho b (by omega)]
  exact h.old b hb
theorem z6t (h:XE own c w p s)(k:Kp (λ_=>False) w w'):XE own c w' p s:=by
 obtain⟨mo,ph,mv,mm,pt,mw,sl,h⟩:=h
 exact⟨mo,ph,mv,mm,pt,mw,sl,h.kept k⟩
theorem Tab.kpN (h:Tab w)(k:Kp (λb=>(own b).c=c) w w')(hN:zid own c):Tab w':=
 h.block (k.block 0 h.lt.1 hN.1) (k.block 1 h.lt.2 hN.2)
theorem z2t (h:Tab w)(hN:zid own c)(ho:∀b,b<w.heap.size→own' b=own b):zid own' c:=by
 unfold zid
 rw[ho 0 h.lt.1,ho 1 h.lt.2]
 exact hN
set_option maxRecDepth 20000 in
set_option maxHeartbeats 2000000 in
theorem zcs (h:XE own c w p s)(ok:XOk s)(hno:∀n,s.txs n=none)(hT:Tab w)(hN:zid own c)(v:Value)(bs:List UInt8)(g:Nat)(hv:RdN w v bs g)(hl:bs.length≤1100000)(num:Nat)(hnum:num<4294967296)
  (hR:∀w' own' s' (b:Bool),Kp (λb=>(own b).c=c) w w'→(∀b,b<w.heap.size→own' b=own b)→XE own' c w' p s'→XOk s'→(∀n,s'.txs n=none)→s'.bk=s.bk→s'.begun=s.begun→z2f bs num s s' b→R (.returned (.bool b)) w') :
  Calls Tryz.prog 41 #[.pointer (some ⟨p,0,none⟩),v,.int .i64 num] w R:=by
 have H:=ze h
 have OK:=ze ok
 have HNO:=ze hno
 have HT:=ze hT
 have HN:=ze hN
 have HV:=ze hv
 have HL:=ze hl
 have HR:=ze hR
 clear h ok hno hT hN hv hl hR
 go_enter Tryz.func41,Tryz.ntmps41
 go_wp2_with (first
  |(go_at_call 75;refine z9z v bs g w HV.out HT.out HL.out ?_ ?_)
  |fail)
 ·intro e w1 hk1
  have HF1:=ze (HR.out w1 own s false (hk1.own_of (λ_ h=>h.elim)) (λ_ _=>rfl) (by obtain⟨mo,ph,mv,mm,pt,mw,sl,h⟩:=H.out;exact⟨mo,ph,mv,mm,pt,mw,sl,h.kept hk1⟩) OK.out HNO.out rfl rfl (Or.inl ⟨by rw[e];simp,rfl,rfl⟩))
  clear e hk1
  by_cases q:num=0
  ·subst q
   go_wp2_with fail
   go_loopw [23] (λv23 wr=>v23 = .int .i64 0∧wr=w1) (λ_ _=>0)
   case atStart=>exact⟨rfl,rfl⟩
   case round=>
    obtain⟨rfl,rfl⟩:=hrel
    go_wp2_with fail
    exact HF1.out
  ·have q':((0:Int) == num)=false:=by simp;omega
   clear q
   go_wp2_with fail
   exact HF1.out
 ·intro n l rest v1 w1 hfi hk1 hrs
  obtain⟨pu,cu,rfl⟩:=zp hrs.row
  have HX1:Hid (XE (outer own c w.heap.size) c w1 p s):=by
   obtain⟨mo,ph,mv,mm,pt,mw,sl,h⟩:=H.out
   exact⟨mo,ph,mv,mm,pt,mw,sl,h.outer hk1⟩
  have HT1:=ze (HT.out.kept hk1)
  have HN1:=ze (HN.out.outer HT.out)
  have HK1:=ze hk1
  have HFI:=ze hfi
  have HRS:=ze hrs
  have hl4:(l.length:Int)≤4:=by have:=hfi.le;omega
  clear hfi hk1 hrs
  by_cases q:n=num
  ·subst q
   have qq:((n:Int) == n)=true:=by simp
   go_wp2_with fail
   go_loopw [23] (λv23 wr=>∃(i:Nat) (own':Nat→Lab) (s':XS),i≤l.length∧v23 = .int .i64 i∧zcu (outer own c w.heap.size) c w1 p s l i wr own' s') (λv23 _=>l.length-(intOf v23).toNat)
   case atStart=>exact⟨0,_,s,Nat.zero_le _,rfl,HX1.out,OK.out,HNO.out,rfl,rfl,rfl,Kp.refl _ _,λ_ _=>rfl⟩
   case round=>
    obtain⟨i,own2,s2,hi,rfl,hM⟩:=hrel
    have HM:=ze hM
    have HKW:Hid (Kp (λb=>(own b).c=c) w wr):=(HK1.out.own_of (λ_ h=>h.elim)).trans hM.kp (λb hb e=>by rw[zvc hb]at e;exact e)
    have HOLD:Hid (∀b,b<w.heap.size→own2 b=own b):=λb hb=>by
     rw[hM.old b (Nat.lt_of_lt_of_le hb HK1.out.size),zvc hb]
    clear hM
    by_cases hlt:i<l.length
    ·have hlt':(i:Int)<l.length:=by omega
     obtain⟨gr,cr,cur,er,_,_⟩:=zib HRS.out.row (by omega)
     injection er with er _ ecu
     subst er
     obtain⟨r,hri⟩:∃r,l[i]?=some r:=⟨l[i],List.getElem?_eq_getElem hlt⟩
     have hrs:=HRS.out.kp HM.out.kp (λb h1 _ e=>zse h1 e)
     obtain⟨c0,c1,c2⟩:=hrs.cell hri
     have hmem:=List.mem_of_getElem? hri
     have HRO:=ze (HFI.out.recs.ok r hmem)
     have HRT:=ze (hrs.lt r hmem)
     have HRH:=ze (hrs.hor r hmem)
     have HRW:=ze (hrs.wr r hmem)
     have HWO:Hid (∀b,r.u.ownBlock=some b→(own2 b).c≠c):=λb e=>by
      have h1:=(HRS.out.wr r hmem).lt b e
      rw[HM.out.old b h1.2]
      exact zse h1.1
     obtain⟨a3,c3,eu⟩:=zp HRW.out
     have HRI:=ze hri
     have HRK:Hid (r.k<256):=by
      show _<_
      rcases HRO.out with ⟨h,_⟩|⟨h,_⟩<;>omega
     have hrk':(r.k:Int)<256:=by have:=HRK.out;omega
     have hrt':(r.t:Int)<4294967296:=by have:=HRT.out;omega
     rw[eu]at c2
     obtain⟨mo,ph,mv,mm,pt,mw,sl,hx2⟩:=HM.out.x
     have kB:=Kp.alloc (λ_=>False) wr (.cells #[.int .u8 r.k,.int .i64 r.t,.slice a3 r.ws.length c3] 110)
     have bB:=heap_alloc_new wr (.cells #[.int .u8 r.k,.int .i64 r.t,.slice a3 r.ws.length c3] 110)
     have HXB:=ze (hx2.kept kB)
     have KB:=ze kB
     have BB:=ze bB
     have EU:=ze eu
     clear hrs hmem hx2 kB bB hri hlt ecu eu
     by_cases hm:zke s2 r.k r.t=true
     ·go_wp2_with (first
       |(go_at_call 76;refine zbm HXB.out HM.out.ok.now r.k r.t HRK.out a3 r.ws.length c3 ?_;intro w3 hk3;rw[hm];have K3:=ze (KB.out.trans hk3 (λ_ _ h=>h));have b3:=(hk3.block _ (zh BB.out) (λe=>e)).trans BB.out;have d0:w3.cell? ⟨wr.heap.size,0,none⟩=some (.int .u8 r.k):=zg b3 0;have d1:w3.cell? ⟨wr.heap.size,1,none⟩=some (.int .i64 r.t):=zg b3 1;have d2:w3.cell? ⟨wr.heap.size,2,none⟩=some (.slice a3 r.ws.length c3):=zg b3 2;clear hk3 b3)
       |(go_at_call 46;rw[← EU.out];refine zx0 (z6t HM.out.x K3.out) HM.out.ok (HT1.out.kpN HM.out.kp HN1.out |>.kept K3.out) (z2t HT1.out HN1.out HM.out.old) r HRO.out HRT.out HRH.out (zi HRW.out K3.out (λ_ _ e=>e)) HWO.out hm ?_;intro w4 own4 s4 hk4 ho4 hx4 hd4;have HM4:=ze (HM.out.step HRI.out HRO.out hm K3.out hk4 ho4 hx4 hd4);clear hk4 ho4 hx4 hd4)
       |fail)
      go_roundw
      case rel=>exact⟨i+1,own4,s4,by omega,by go_num,HM4.out⟩
      case measure=>simp[intOf];omega
     ·have hm':zke s2 r.k r.t=false:=by simpa using hm
      clear hm
      go_wp2_with (first
       |(go_at_call 76;refine zbm HXB.out HM.out.ok.now r.k r.t HRK.out a3 r.ws.length c3 ?_;intro w3 hk3;rw[hm'];have K3:=ze (KB.out.trans hk3 (λ_ _ h=>h));clear hk3)
       |fail)
      exact HR.out _ own2 s2 false (HKW.out.trans (K3.out.own_of (λ_ h=>h.elim)) (λ_ _ h=>h)) HOLD.out (z6t HM.out.x K3.out) HM.out.ok HM.out.txs HM.out.bk HM.out.beg (Or.inr ⟨l,rest,HFI.out,Or.inl ⟨i,r,HRI.out,HM.out.done,hm',rfl⟩⟩)
    ·have hie:i=l.length:=by omega
     subst hie
     have hdone:zme l s s2:=by have:=HM.out.done;rw[List.take_length]at this;exact this
     have HFN:=ze (λb hb=>HR.out wr own2 s2 b HKW.out HOLD.out HM.out.x HM.out.ok HM.out.txs HM.out.bk HM.out.beg (Or.inr ⟨l,rest,HFI.out,Or.inr ⟨hdone,hb⟩⟩))
     clear hdone hi hlt
     by_cases q0:rest=[]
     ·have e0:decide (rest=[])=true:=by simpa using q0
      by_cases q4:l.length=4
      ·have HF1:=ze (HFN.out true (by simp[q0,q4]))
       have e4:((l.length:Int) == 4)=true:=by simp;omega
       rw[e0]
       clear q0 q4
       go_wp2_with fail
       exact HF1.out
      ·have HF1:=ze (HFN.out false (by simp[q4]))
       have e4:((l.length:Int) == 4)=false:=by simp;omega
       rw[e0]
       clear q0 q4
       go_wp2_with fail
       exact HF1.out
     ·have e0:decide (rest=[])=false:=by simpa using q0
      have HF1:=ze (HFN.out false (by simp[q0]))
      rw[e0]
      clear q0
      go_wp2_with fail
      exact HF1.out
  ·have q':((n:Int) == num)=false:=by simp;omega
   have HF1:=ze (HR.out w1 own s false (HK1.out.own_of (λ_ h=>h.elim)) (λ_ _=>rfl) (by obtain⟨mo,ph,mv,mm,pt,mw,sl,h⟩:=H.out;exact⟨mo,ph,mv,mm,pt,mw,sl,h.kept HK1.out⟩) OK.out HNO.out rfl rfl (Or.inl ⟨by rw[HFI.out.num];simpa using q,rfl,rfl⟩))
   clear q
   go_wp2_with fail
   exact HF1.out
end
end
section
open Go.RowKit Go.Maps Go.Lib
theorem zpf {ops:Array Oper}{rest:List Oper}{o:Oper}{a:Act}{Q:Exit→Act→World→Prop}(w:World)(hgd:o.guard=none)(s x:Operand)
  (ho:o.op = .call { callee:=.builtin .append,args:=#[s,x],argTypes:=#[37,37] })
  (base:Nat) (v:Value) (n:Nat) (xs:List Value) (hs:a.eval s=v) (hown:w.ownsRow base 48 1 v n xs) (g:Nat) (u:Value) (hx:a.eval x = .slice (some ⟨g,0,none⟩) 1 1) (hu:w.cell? ⟨g,0,none⟩=some u) (h1:u.oneCell'=true) (hl:n≤1100000) (hb:base≤w.heap.size)
  (h:∀v' w',w'.ownsRow base 48 1 v' (n+1) (xs++[u])→Kp (λb=>v.ownBlock=some b) w w'→(v'.ownBlock=v.ownBlock∨v'.ownBlock=some w.heap.size)→wpList Tryz.prog ops Q rest (a.put o.dst v') w') :
  wpList Tryz.prog ops Q (o::rest) a w:=by
 obtain⟨i0,hi,hz0,hz1,hz2⟩:=info_parts zyt
 refine wpList_append_own_at _ hgd s x 37 ho base 48 i0 (.slice none 0 0) 1 24 Tryz.underlying37 hi hz0 hz1 hz2 rfl (by decide) v n xs hs hown ⟨g,0,none⟩ 1 1 [u] hx rfl (λj y hj=>?_) (by simpa using h1) (by unfold maxLen;omega) (by omega) hb (λv' w' r1 r2 _ r4=>h v' w' r1 (Kp.of_grown r2 (λ_ e=>e)) r4)
 match j,hj with
 |0,hj=>simp at hj;subst hj;rw[zub];exact hu
theorem zde:∀(fs:List (List UInt8)) (n:Nat),(zgb fs n).length≤fs.length
 |[],_=>by simp[zgb]
 |f::r,n=>by
  have:=zde r (n-f.length)
  unfold zgb
  split<;>simp<;>omega
theorem zk3 (bs:List UInt8):(bs.map λb=>(b.toNat:Int)).map (Value.int .u8)=bs.map b8:=by simp[b8,Function.comp_def]
section
variable {R:Ending→World→Prop}
theorem z22 (g o cap:Nat)(bs:List UInt8)(w:World)(hl:bs.length≤1000000000)(hc:∀j,j<bs.length→w.cell? ⟨g,o+j,none⟩=some (b8 (bs.getD j 0)))
  (hR:∀v' w',BR w.heap.size w' v' bs→Kp (λ_=>False) w w'→R (.returned v') w') :
  Calls Tryz.prog 130 #[.slice (some ⟨g,o,none⟩) bs.length cap] w R:=by
 refine (Tryz.bytes_Clone_at ⟨g,o,none⟩ bs.length cap (bs.map λb=>(b.toNat:Int)) w (by simp) (by omega) (λi hi=>?_)).mono ?_
 ·rw[zub,hc i hi]
  simp[b8,List.getD,List.getElem?_eq_getElem hi]
 ·rintro e w' ⟨v',rfl,h1,_,h3⟩
  refine hR v' w' ?_ (Kp.of_below h3 _)
  rw[zk3]at h1
  exact h1
structure zg4 (w:World)(fs:List (List UInt8))(n k:Nat)(wr:World)(v5:Value)(lv':List Value):Prop where
 kp:Kp (λ_=>False) w wr
 fr:FR w.heap.size wr v5 (zgb (fs.take k) n) lv'
set_option maxRecDepth 20000 in
set_option maxHeartbeats 2000000 in
theorem z2k (p o:Nat)(fv:Value)(fs:List (List UInt8))(lv:List Value)(n:Nat)(w:World)(c0:w.cell? ⟨p,o,none⟩=some fv)(hJ:JR w fv fs lv)(hne:∀f∈fs,f≠[])(hl:bytesOf fs≤1000000000)(hfl:fs.length≤1100000)(hn:n≤1000000000)
  (hR:∀v' lv' w',FR w.heap.size w' v' (zgb fs n) lv'→Kp (λ_=>False) w w'→R (.returned v') w') :
  Calls Tryz.prog 77 #[.pointer (some ⟨p,o,none⟩),.int .i64 n] w R:=by
 obtain⟨hrow,hat⟩:=hJ
 have HAT:=ze hat
 have HROW:=ze hrow
 have HR:=ze hR
 have HL:=ze hl
 have HNE:=ze hne
 have hfl':(fs.length:Int)≤1100000:=by omega
 have hn':(n:Int)≤1000000000:=by omega
 have hlen:lv.length=fs.length:=by simpa using hrow.1
 have HLEN:=ze hlen
 have HFL:=ze hfl
 by_cases h0:fs.length=0
 ·have e0:fs=[]:=List.eq_nil_of_length_eq_zero h0
  subst e0
  obtain⟨pf,cap,rfl⟩:=zp hrow
  clear hrow hat hR hl h0 hlen hfl hfl' hne
  go_enter Tryz.func77,Tryz.ntmps77
  go_wp2_with fail
  go_loop [5,14] (λv5 v14=>v5 = .slice none 0 0∧v14 = .int .i64 0) (λ_ _=>0)
  case atStart=>exact⟨rfl,rfl⟩
  case round=>
   obtain⟨rfl,rfl⟩:=hrel
   go_wp2_with fail
   exact HR.out _ [] _ (FR.nil _ _) (Kp.refl _ _)
 ·obtain⟨g,cap,cur,rfl,_,_⟩:=zib hrow (by omega)
  clear hrow hat hR hl h0 hlen hne hfl
  go_enter Tryz.func77,Tryz.ntmps77
  go_wp2_with fail
  go_loopw [1,5,14] (λv1 v5 v14 wr=>∃(k:Nat) (lv':List Value),k≤fs.length∧v14 = .int .i64 k∧v1 = .int .i64 (n-bytesOf (fs.take k):Nat)∧zg4 w fs n k wr v5 lv') (λ_ _ v14 _=>fs.length-(intOf v14).toNat)
  case atStart=>exact⟨0,[],Nat.zero_le _,rfl,by simp[bytesOf],Kp.refl _ _,FR.nil _ _⟩
  case round=>
   obtain⟨k,lv',hk,rfl,rfl,hM⟩:=hrel
   by_cases hlt:k<fs.length
   ·obtain⟨f,hf⟩:∃f,fs[k]?=some f:=⟨fs[k],List.getElem?_eq_getElem hlt⟩
    obtain⟨u,hu⟩:∃u,lv[k]?=some u:=⟨lv[k]'(by rw[HLEN.out];exact hlt),List.getElem?_eq_getElem (by rw[HLEN.out];exact hlt)⟩
    have hcw:=zfe HROW.out k u hu
    have hc:wr.cell? ⟨g,k,none⟩=some u:=(hM.kp.cell (World.block_lt_of_cell? _ _ hcw) (λe=>e)).trans hcw
    have hfne:=HNE.out f (List.mem_of_getElem? hf)
    have hbr:=(HAT.out k u f hu hf)
    obtain⟨gu,capu,rfl⟩:=hbr.form hfne
    obtain⟨pu,capu2,eu,hrd⟩:=(hbr.kept hM.kp).rd
    obtain⟨gu2,ou,epu,hcc⟩:=hrd hfne
    have hfcap:f.length≤capu:=by
     rcases hbr.2 with ⟨e,_⟩|⟨_,c2,_,e,_,_,h2,_⟩
     ·cases e
     ·injection e with _ _ e3;omega
    rw[epu]at eu
    injection eu with eu1 eu2 eu3
    injection eu1 with eu1
    injection eu1 with e1 e2 e3
    subst e1;subst e2;subst eu3
    clear eu2 epu e3
    have HCC:=ze hcc
    have HM:=ze hM
    have HF:=ze hf
    have hfl2:f.length≤1000000000:=by have:=z3e (List.mem_of_getElem? hf);have:=HL.out;omega
    have hfl3:(f.length:Int)≤1000000000:=by omega
    have hkl:(k:Int)<fs.length:=by omega
    clear hcw hbr hM hu hf hrd hcc
    by_cases hz:n-bytesOf (fs.take k)=0
    ·have HZ:=ze hz
     rw[hz]
     go_wp2_with fail
     refine HR.out _ lv' _ ?_ HM.out.kp
     rw[zjj fs n k (by have:=HZ.out;omega)]
     exact HM.out.fr
    ·have HZ:=ze hz
     have HE:Hid (∃q,n-bytesOf (fs.take k)=q+1):=⟨n-bytesOf (fs.take k)-1,by show _=_;omega⟩
     obtain⟨q,hq⟩:=HE.out
     have HQ:=ze hq
     rw[hq]
     have hq0:(((q+1:Nat):Int) == 0)=false:=by simp;omega
     have hqn:((q:Int)+1)≤1000000000:=by omega
     have HMIN:Hid (∃m:Nat,m=min (q+1) f.length):=⟨_,rfl⟩
     obtain⟨m,hm⟩:=HMIN.out
     have hmin:min ((q:Int)+1) (f.length:Int)=(m:Int):=by omega
     have HMM:=ze hm
     have hm1:(m:Int)≤f.length:=by omega
     have hm2:(m:Int)≤(q:Int)+1:=by omega
     have hm0:(0:Int)≤m:=by omega
     have hmc:(m:Int)≤capu:=by omega
     have HTAKE:Hid ((f.take m).length=m):=by show _=_;rw[List.length_take];omega
     have HCT:Hid (∀j,j<(f.take m).length→wr.cell? ⟨gu,0+j,none⟩=some (b8 ((f.take m).getD j 0))):=λj hj=>by
      have hj':j<m:=by rw[HTAKE.out]at hj;exact hj
      rw[HCC.out j (by omega)]
      simp[List.getD,hj']
     clear hz hq hm
     have HM1:=ze hm1
     have HM2:=ze hm2
     have HFN:=ze hfne
     clear hm1 hm2 hqn hm0 hfne
     go_wp2_with (first
      |(go_at_call 130;have HC0:=z22 (R:=λe w1=>∃v1,e = .returned v1∧BR wr.heap.size w1 v1 (f.take m)∧Kp (λ_=>False) wr w1) gu 0 capu (f.take m) wr (by have:=HTAKE.out;omega) HCT.out (λv1 w1 h1 h2=>⟨v1,rfl,h1,h2⟩);rw[HTAKE.out]at HC0;refine HC0.mono ?_;rintro e w1 ⟨v1,rfl,hv1,hk1⟩;have HV1:=ze hv1;have HK1:=ze hk1;obtain⟨g1,cap1,rfl⟩:=hv1.form (by intro e;have h1:=HTAKE.out;rw[e]at h1;have h2:=HMM.out;have h3:=List.length_pos_iff.2 HFN.out;simp at h1;omega);rw[HTAKE.out];clear hv1 hk1 HC0)
      |(at_builtin;refine zpf _ rfl _ _ rfl w.heap.size u5 _ lv' rfl (HM.out.fr.kept (HK1.out.trans (Kp.alloc _ _ _) (λ_ _ h=>h))).row w1.heap.size (.slice (some ⟨g1,0,none⟩) m cap1) rfl (zg (heap_alloc_new w1 _) 0) rfl (by have:=zde (fs.take k) n;have:=List.length_take_le k fs;have:=HFL.out;omega) (by have:=HM.out.kp.size;have:=HK1.out.size;simp;omega) ?_;intro v2 w2 hr2 hk2 hl2;have HR2:=ze hr2;have HK2:=ze hk2;clear hr2 hk2 hl2)
      |go_in)
     have hB:=z4f fs k f HF.out
     have hQ:=HQ.out
     have hMm:=HMM.out
     have h5:=HM2.out
     have hw:wrap64 ((q:Int)+1-m)=(q:Int)+1-m:=by unfold wrap64;omega
     refine⟨⟨k+1,lv'++[.slice (some ⟨g1,0,none⟩) m cap1],by omega,by go_num,?_,?_,?_⟩,by simp[intOf];omega⟩
     ·rw[hw,show ((q:Int)+1-m)=((n-bytesOf (fs.take (k+1)):Nat):Int) by omega]
     ·exact ((HM.out.kp.trans HK1.out (λ_ _ h=>h)).trans (Kp.alloc _ _ _) (λ_ _ h=>h)).trans HK2.out (λb hb e=>by have:=(HM.out.fr.row.lt b e).1;omega)
     ·have hstep:=zkj fs n k f HF.out (by omega)
      rw[hstep]
      have htk:f.take (n-bytesOf (fs.take k))=f.take m:=by rw[hQ,hMm];exact List.take_eq_take_min
      rw[htk]
      have hb1:BR wr.heap.size (w1.alloc (.cells #[.slice (some ⟨g1,0,none⟩) m cap1] 48)) (.slice (some ⟨g1,0,none⟩) m cap1) (f.take m):=by
       have h:=HV1.out
       rw[HTAKE.out]at h
       exact h.kept (Kp.alloc _ _ _)
      exact FR.snoc (w:=wr) (HM.out.fr.kept (HK1.out.trans (Kp.alloc _ _ _) (λ_ _ h=>h))) hb1 (λb e=>(HM.out.fr.row.lt b e).2) (λi x hx b e=>((HM.out.fr.at_ i x _ hx (List.getElem?_eq_getElem (by rw[← HM.out.fr.len];exact (List.getElem?_eq_some_iff.1 hx).1))).lt b e).2) HM.out.kp.size HR2.out HK2.out
   ·have hk':k=fs.length:=by omega
    subst hk'
    go_wp2_with fail
    refine HR.out _ lv' _ ?_ hM.kp
    have:=hM.fr
    rw[List.take_length]at this
    exact this
end
end
end Go.Proofs.YthbdpfccfcceiaaGreatDoor
