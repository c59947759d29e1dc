/-
  Of the proof of logsUpto_card.
-/
import Derived.Test.YthbdpfccfcceiaaGreatDoorR13
namespace Go.Proofs.YthbdpfccfcceiaaGreatDoor
section
open Go.RowKit
structure Rc where
 k:Nat
 t:Nat
 ws:List (ByteArray × ByteArray × Bool)
def ztg (hor now:Int)(r:Rc):Prop:=(r.k=72∧hor<(r.t:Int)∧(r.t:Int)≤now)∨(r.k≠72∧(r.t:Int)=now+1∧now<2000)
def zeu (r:Rc):Prop:=(r.k=72∧r.ws=[])∨(r.k=67∧(r.ws.map Prod.fst).Pairwise blt∧1≤r.ws.length∧r.ws.length≤10∧∀x∈r.ws,zu x.1=true∧x.2.1.size≤20∧(x.2.2=true→x.2.1=eb))
def zqf (r:Rc):List UInt8:=if r.k=72 then zxb r.t else zbb r.t r.ws
def znm (h:Int)(r:Rc):Int:=if r.k=72 then (r.t:Int) else h
def zhk (n:Int)(r:Rc):Int:=if r.k=72 then n else (r.t:Int)
def zcg:List Rc→Int→Int→Int→Int→Prop
 |[],h,n,h',n'=>h'=h∧n'=n
 |r::L,h,n,h',n'=>zeu r∧ztg h n r∧zcg L (znm h r) (zhk n r) h' n'
theorem zcg.snoc {r:Rc}(hr:zeu r):∀{L:List Rc} {h n h' n':Int},zcg L h n h' n'→ztg h' n' r→zcg (L++[r]) h n (znm h' r) (zhk n' r)
 |[],_,_,_,_,⟨e1,e2⟩,hm=>by subst e1 e2;exact⟨hr,hm,rfl,rfl⟩
 |_::_,_,_,_,_,⟨h1,h2,h3⟩,hm=>⟨h1,h2,h3.snoc hr hm⟩
def LgV (lg:List (List UInt8))(h n:Int):Prop:=∃rs,lg=rs.map zqf∧zcg rs 0 0 h n
theorem zw1:LgV [] 0 0:=⟨[],rfl,rfl,rfl⟩
theorem LgV.snoc {lg:List (List UInt8)}{h n:Int}(hv:LgV lg h n){r:Rc}(hr:zeu r)(hm:ztg h n r):LgV (lg++[zqf r]) (znm h r) (zhk n r):=by
 obtain⟨rs,rfl,hc⟩:=hv
 exact⟨rs++[r],by simp,hc.snoc hr hm⟩
theorem LgV.horizon {lg:List (List UInt8)}{h n t:Int}(hv:LgV lg h n)(h0:0≤h)(h1:h<t)(h2:t≤n):LgV (lg++[zxb t.toNat]) t n:=by
 have e:((t.toNat:Nat):Int)=t:=Int.toNat_of_nonneg (by omega)
 have:=hv.snoc (r:=⟨72,t.toNat,[]⟩) (Or.inl ⟨rfl,rfl⟩) (Or.inl ⟨rfl,by show h<((t.toNat:Nat):Int);omega,by show ((t.toNat:Nat):Int)≤n;omega⟩)
 simpa [zqf,znm,zhk,e] using this
def ztl (x:ByteArray × ByteArray × Bool):ByteArray × ByteArray × Bool:=(x.1,if x.2.2=true then eb else x.2.1,x.2.2)
theorem zfv (x:ByteArray × ByteArray × Bool):z9b (ztl x)=z9b x:=by
 unfold ztl z9b zlg
 by_cases q:x.2.2=true
 ·simp[q]
 ·simp[q]
theorem zsx (t:Nat)(ws:List (ByteArray × ByteArray × Bool)):zbb t (ws.map ztl)=zbb t ws:=by
 unfold zbb
 rw[List.length_map,List.flatMap_map]
 simp only[zfv]
theorem LgV.commit {lg:List (List UInt8)}{h n:Int}(hv:LgV lg h n)(h0:0≤n)(h1:n<2000){ws:List (ByteArray × ByteArray × Bool)}(hs:(ws.map Prod.fst).Pairwise blt)(hl1:1≤ws.length)(hl2:ws.length≤10)(hok:∀x∈ws,zu x.1=true∧x.2.1.size≤20) :
  LgV (lg++[zbb (n+1).toNat ws]) h (n+1):=by
 have e:(((n+1).toNat:Nat):Int)=n+1:=Int.toNat_of_nonneg (by omega)
 have:=hv.snoc (r:=⟨67,(n+1).toNat,ws.map ztl⟩) (Or.inr ⟨rfl,?_,?_,?_,?_⟩) (Or.inr ⟨by show (67:Nat)≠72;decide,e,h1⟩)
 ·simpa [zqf,znm,zhk,e,zsx] using this
 ·rw[List.map_map]
  exact hs
 ·rw[List.length_map];exact hl1
 ·rw[List.length_map];exact hl2
 ·intro x hx
  obtain⟨z,hz,rfl⟩:=List.mem_map.1 hx
  have:=hok z hz
  refine⟨this.1,?_,λq=>?_⟩
  ·unfold ztl
   by_cases q:z.2.2=true
   ·simp[q];decide
   ·simp[q];exact this.2
  ·unfold ztl at q ⊢
   simp at q
   simp[q]
end
section
open Go.RowKit
def zbz (l:List YV)(k:ByteArray):Option YV:=(zyb l k).bind λi=>l[i]?
def zle (l:List YV)(k:ByteArray):Option (ByteArray × Bool):=(zbz l k).map λy=>(y.s,y.gone)
def zy (l:List YV)(k:ByteArray):List Int:=(l.filter λy=>decide (y.key=k)).map (·.t)
def z2b (l:List YV)(k:ByteArray)(m:Int):Option (ByteArray × Bool):=(l.find? λy=>decide (y.key=k∧y.t=m)).map λy=>(y.s,y.gone)
def zec (t:YT):XT:=⟨t.sees,zle t.l,t.l.length⟩
def zvg (y:YS)(n:Int):Option XT:=if zab y n=true then (y.txs[(n-1).toNat]?).map zec else none
structure ztb (s:XS)(y:YS):Prop where
 now:s.now=y.now
 begun:s.begun=(y.txs.length:Int)
 txs:∀n,s.txs n=zvg y n
 nopen:s.nopen=ztc y.txs
 mom:∀k,s.mom k=zy y.l k
 ver:∀k m,s.ver k m=z2b y.l k m
 nv:(s.nv:Int)≤10*y.now
 nm:(s.nm:Int)≤10*y.now
 hor:s.hor=y.hor
 lgl:(s.log.lg.length:Int)≤y.now+y.hor
 lgb:∀b∈s.log.lg,b.length≤400
 sy:s.log.sy≤bytesOf (zm s.log.lg)
 nob:∀n,s.bk.un n=none
 lg:y.lg=s.log.lg
 syn:y.syn=(s.log.sy:Int)
 lgn:∀b∈y.lg,b≠[]
structure TI (n:Int)(t:YT):Prop where
 sees:0≤t.sees∧t.sees≤n
 len:t.l.length≤10
 one:t.l.Pairwise (λa b=>a.key≠b.key)
 ok:∀v∈t.l,zu v.key=true∧v.s.size≤20
structure YI (y:YS):Prop where
 now:0≤y.now∧y.now≤2000
 len:(y.l.length:Int)≤10*y.now
 ver:∀v∈y.l,1≤v.t∧v.t≤y.now∧zu v.key=true
 up:y.l.Pairwise (λa b=>a.t≤b.t∧(a.t=b.t→a.key≠b.key))
 txs:∀t∈y.txs,TI y.now t
 opn:ztc y.txs≤8
 hor:0≤y.hor∧y.hor≤y.now
 pin:∀t∈y.txs,t.over=false→y.hor≤t.sees
 bku:y.bku = .slice none 0 0
 lgv:LgV y.lg y.hor y.now
theorem z7f {l:List YV}{k:ByteArray}{i:Nat}(h:zyb l k=some i):∃hi:i<l.length,l[i].key=k:=by
 have hi:=z0g h
 rw[zyb,List.findIdx?_eq_some_iff_getElem]at h
 exact⟨hi,WideShapes.bytes_inj (by rw[← Lib.toList_data,← Lib.toList_data];simpa using h.2.1)⟩
theorem z6o {l:List YV}{k:ByteArray}:zyb l k=none↔∀y∈l,y.key≠k:=by
 constructor
 ·intro h y hy e
  obtain⟨i,hi,_⟩:=zye (l:=l) (k:=k) ⟨y,hy,e⟩
  rw[h]at hi;cases hi
 ·intro h
  cases hx:zyb l k with
  |none=>rfl
  |some i=>
   obtain⟨hi,e⟩:=z7f hx
   exact absurd e (h _ (List.getElem_mem _))
theorem zvd {l:List YV}{k:ByteArray}{i:Nat}(h:zyb l k=some i)(hi:i<l.length):zle l k=some (l[i].s,l[i].gone):=by
 simp[zle,zbz,h,List.getElem?_eq_getElem hi]
theorem zae {l:List YV}{k:ByteArray}(h:zyb l k=none):zle l k=none:=by simp[zle,zbz,h]
theorem z4m {l:List YV}{k:ByteArray}{v:ByteArray × Bool}(h:zle l k=some v):∃u∈l,u.key=k∧v=(u.s,u.gone):=by
 cases hx:zyb l k with
 |none=>rw[zae hx]at h;cases h
 |some i=>
  obtain⟨hi,e⟩:=z7f hx
  rw[zvd hx hi]at h
  exact⟨_,List.getElem_mem hi,e,(Option.some.inj h).symm⟩
theorem zyh {l:List YV}{k:ByteArray}:(zle l k).isSome=(zyb l k).isSome:=by
 cases hx:zyb l k with
 |none=>rw[zae hx];rfl
 |some i=>rw[zvd hx (z0g hx)];rfl
theorem zsh {l:List YV}{k:ByteArray}:(zle l k).isSome=true↔∃y∈l,y.key=k:=by
 rw[zyh]
 constructor
 ·intro h
  obtain⟨i,hi⟩:=Option.isSome_iff_exists.1 h
  obtain⟨hl,e⟩:=z7f hi
  exact⟨_,List.getElem_mem hl,e⟩
 ·intro h
  obtain⟨i,hi,_⟩:=zye h
  rw[hi];rfl
theorem zkc {l:List YV}{k:ByteArray}{m:Int}:m∈zy l k↔∃y∈l,y.key=k∧y.t=m:=by
 simp[zy,and_assoc]
theorem zxj {l:List YV}{k:ByteArray}:zy l k≠[]↔∃y∈l,y.key=k:=by
 constructor
 ·intro h
  obtain⟨m,hm⟩:=List.exists_mem_of_ne_nil _ h
  obtain⟨y,hy,e,_⟩:=zkc.1 hm
  exact⟨y,hy,e⟩
 ·rintro⟨y,hy,e⟩ hn
  have:=zkc.2 ⟨y,hy,e,rfl⟩
  rw[hn]at this
  cases this
theorem zni {l:List YV}(h:l.Pairwise (λa b=>a.t≤b.t∧(a.t=b.t→a.key≠b.key)))(k:ByteArray):(zy l k).Pairwise (·<·):=by
 unfold zy
 rw[List.pairwise_map]
 have h2:=h.filter (λy=>decide (y.key=k))
 refine List.Pairwise.imp_of_mem ?_ h2
 intro a b ha hb hr
 have ea:a.key=k:=by simpa using (List.mem_filter.1 ha).2
 have eb:b.key=k:=by simpa using (List.mem_filter.1 hb).2
 rcases Int.lt_or_eq_of_le hr.1 with h3|h3
 ·exact h3
 ·exact absurd (ea.trans eb.symm) (hr.2 h3)
theorem zmh:∀{m:List Int} (_:m.Pairwise (·<·)) {x:Int} (_:x∈m),∃z,m.getLast?=some z∧z∈m∧x≤z
 |[],_,_,hx=>by cases hx
 |[a],_,x,hx=>⟨a,rfl,by simp,by simp at hx;omega⟩
 |a::b::r,h,x,hx=>by
  obtain⟨h1,h2⟩:=List.pairwise_cons.1 h
  rcases List.mem_cons.1 hx with rfl|hx
  ·obtain⟨z,e,hz,hb⟩:=zmh h2 (x:=b) (by simp)
   have:=h1 b (by simp)
   exact⟨z,by rw[List.getLast?_cons_cons];exact e,List.mem_cons_of_mem _ hz,by omega⟩
  ·obtain⟨z,e,hz,hb⟩:=zmh h2 hx
   exact⟨z,by rw[List.getLast?_cons_cons];exact e,List.mem_cons_of_mem _ hz,hb⟩
theorem zhl {l:List YV}(h:l.Pairwise (λa b=>a.t≤b.t∧(a.t=b.t→a.key≠b.key))){b:Nat}(hb:b<l.length):z2b l l[b].key l[b].t=some (l[b].s,l[b].gone):=by
 unfold z2b
 cases hf:l.find? (λy=>decide (y.key=l[b].key∧y.t=l[b].t)) with
 |none=>
  have:=List.find?_eq_none.1 hf l[b] (List.getElem_mem _)
  simp at this
 |some y=>
  have h1:y.key=l[b].key∧y.t=l[b].t:=by simpa using List.find?_some hf
  obtain⟨a,ha,rfl⟩:=List.getElem_of_mem (List.mem_of_find?_eq_some hf)
  have:a=b:=by
   rcases Nat.lt_trichotomy a b with hlt|e|hlt
   ·exact absurd h1.1 ((List.pairwise_iff_getElem.1 h a b ha hb hlt).2 h1.2)
   ·exact e
   ·exact absurd h1.1.symm ((List.pairwise_iff_getElem.1 h b a hb ha hlt).2 h1.2.symm)
  subst this
  rfl
theorem zlh {y:YV}{t:Int}{k:ByteArray}:zkh y t k=true↔y.key=k∧y.t≤t:=by
 unfold zkh
 rw[Bool.and_eq_true,decide_eq_true_iff]
 refine and_congr_left λ_=>?_
 constructor
 ·intro h
  exact WideShapes.bytes_inj (by rw[← Lib.toList_data,← Lib.toList_data];simpa using h)
 ·rintro rfl;simp
section
variable {s:XS}{y:YS}
theorem ztb.momOk (h:ztb s y)(hy:YI y)(k:ByteArray):zxf s k:=by
 have hl:=hy.len
 have hn:=hy.now
 refine⟨?_,by rw[h.mom];exact zni hy.up k,λm hm=>?_⟩
 ·rw[h.mom]
  have:(zy y.l k).length≤y.l.length:=by unfold zy;rw[List.length_map];exact List.length_filter_le _ _
  omega
 ·rw[h.mom]at hm
  obtain⟨v,hv,e1,e2⟩:=zkc.1 hm
  obtain⟨b,hb,rfl⟩:=List.getElem_of_mem hv
  have h1:=hy.ver _ hv
  refine⟨?_,?_⟩
  ·have e0:IntKind.i64.min = -9223372036854775808:=rfl
   simp[Lit.wf]
   omega
  ·rw[h.ver,← e1,← e2,zhl hy.up hb];rfl
theorem ztb.seen (h:ztb s y)(hy:YI y)(t:YT):z8v y t (zuc s (zec t)):=by
 intro k r hr
 rcases hr with ⟨hn,ha⟩|⟨i,hi,hl,rfl⟩
 ·have e0:zuc s (zec t) k=zvb s k t.sees:=by simp[zuc,zec,zae hn]
  rw[e0]
  have hup:=(zni hy.up k).filter (λm=>decide (m≤t.sees))
  rcases ha with ⟨hno,rfl⟩|⟨b,hb,hbest,ha⟩
  ·have e1:(s.mom k).filter (λm=>decide (m≤t.sees))=[]:=by
    rw[List.filter_eq_nil_iff,h.mom]
    intro m hm
    obtain⟨v,hv,e1,e2⟩:=zkc.1 hm
    obtain⟨j,hj,rfl⟩:=List.getElem_of_mem hv
    intro hle
    have hle:m≤t.sees:=by simpa using hle
    have:=hno j hj hj
    rw[Bool.eq_false_iff]at this
    exact this (zlh.2 ⟨e1,by omega⟩)
   have e2:zvb s k t.sees=(eb,false):=by simp[zvb,e1]
   rw[e2]
   exact⟨rfl,λh=>by cases h⟩
  ·obtain⟨ek,et⟩:=zlh.1 hbest.fit
   have hm:y.l[b].t∈zy y.l k:=zkc.2 ⟨_,List.getElem_mem hb,ek,rfl⟩
   obtain⟨z,e,hz,hle⟩:=zmh hup (x:=y.l[b].t) (List.mem_filter.2 ⟨hm,by simpa using et⟩)
   obtain⟨hz1,hz2⟩:=List.mem_filter.1 hz
   obtain⟨v,hv,e1,e2⟩:=zkc.1 hz1
   obtain⟨j,hj,rfl⟩:=List.getElem_of_mem hv
   have hz3:z≤t.sees:=by simpa using hz2
   have h5:=hbest.top j hj hj (zlh.2 ⟨e1,by omega⟩)
   have hzb:z=y.l[b].t:=by omega
   have hv:=zhl hy.up hb
   rw[ek]at hv
   have e2:zvb s k t.sees=(y.l[b].s,!y.l[b].gone):=by
    unfold zvb
    rw[h.mom,e,hzb]
    simp only[h.ver,hv]
   rw[e2]
   rcases ha with ⟨hg,rfl⟩|⟨hg,rfl⟩
   ·exact⟨by simp[hg],λh=>by cases h⟩
   ·exact⟨by simp[hg],λ_=>rfl⟩
 ·have e0:zuc s (zec t) k=(t.l[i].s,!t.l[i].gone):=by simp[zuc,zec,zvd hi hl]
  rw[e0]
  exact⟨rfl,λ_=>rfl⟩
end
end
section
open Go.RowKit Go.Maps
section
variable {own own':Nat→Lab}{c:Nat}{w w':World}{p:Nat}{s:XS}{mo ph mv mm:Nat}{pt mw:Int→Nat}{sl:ByteArray→Value}
variable {R:Ending→World→Prop}
set_option maxRecDepth 20000 in
set_option maxHeartbeats 400000 in
theorem z7p (h:XR own c w p s mo ph mv mm pt mw sl)(tx:Int)(hwx:(Lit.int .i64 tx).wf=true)(t:XT)(e:s.txs tx=some t)(hnw:0<t.nw)(hkeys:∀k,(t.wr k).isSome=true→k.size≤8)(hmom:∀k,(s.mom k).length<1000000)(hov:zjk s t)
  (hR:∀w',Kp (λb=>(own b).c=c) w w'→XR own c w' p { s with txs:=zwb s.txs tx none,nopen:=s.nopen-1 } mo ph mv mm pt mw sl→R (.returned (.tuple #[.int .i64 0,.int .i64 4])) w') :
  Calls Tryz.prog 36 #[.pointer (some ⟨p,0,none⟩),.int .i64 tx] w R:=by
 have hkey:Hid _:=keyOf_int_mk Tryz.underlying3 hwx
 have c2:w.cell? ⟨p,7,none⟩=some (.map (some mo)):=zg h.store 7
 have d1:w.cell? ⟨pt tx,1,none⟩=some (.map (some (mw tx))):=zg (h.tx tx t e) 1
 have hw:=h.wr tx t e
 have hf:(zpc λn=>(s.txs n).map λ_=>Value.pointer (some ⟨pt n,0,none⟩)) (.int .i64 tx)=some (.pointer (some ⟨pt tx,0,none⟩)):=by rw[zrc,e];rfl
 have H:Hid (XR own c w p s mo ph mv mm pt mw sl):=h
 have hopn:=h.opn
 have HR:Hid _:=hR
 have hg:Hid _:=z4q s tx pt
 have hn:(t.nw:Int)≠0:=by omega
 have hn':((t.nw:Int) == 0)=false:=by simpa using hn
 clear h hR hnw hn
 go_enter Tryz.func36,Tryz.ntmps36
 go_wp2_with (first
  |(at_lookup;refine z8 _ rfl _ _ 99 rfl 3 129 zld Tryz.underlying99 (zdf _) mo s.nopen _ rfl hopn (.int .i64 tx) _ rfl hkey.out _ hf ?_)
  |(at_len;refine zuf _ rfl _ 130 rfl 9 138 Tryz.underlying130 (mw tx) t.nw _ rfl hw ?_)
  |(go_at_call 71;refine znj H.out tx t e hkeys hmom (λhno=>absurd hov hno) (λ_ w1 hk1=>?_);have H1:Hid (XR own c w1 p s mo ph mv mm pt mw sl):=H.out.kept hk1;have hopn1:=H1.out.opn;have c2':w1.cell? ⟨p,7,none⟩=some (.map (some mo)):=zg H1.out.store 7)
  |(at_delete;refine zhg _ rfl _ _ 99 3 rfl 129 zld Tryz.underlying99 mo s.nopen _ rfl hopn1 (.int .i64 tx) _ rfl hkey.out hg.out ?_;intro w2 hown2 hturn2)
  |go_in)
 rw[hf]at hown2
 exact HR.out w2 ((hk1.own_of (λ_ h=>h.elim)).trans (Kp.of_turned (S:=λb=>(own b).c=c) hturn2 (by rw[H.out.ownO])) (λ_ _ h=>h)) (H1.out.reopen (λb hb=>zlb hturn2 b hb) _ _ hown2 zlo)
set_option maxRecDepth 20000 in
set_option maxHeartbeats 400000 in
theorem z5p (h:XR own c w p s mo ph mv mm pt mw sl)(tx:Int)(hwx:(Lit.int .i64 tx).wf=true)(t:XT)(e:s.txs tx=some t)(hnw:0<t.nw)(hkeys:∀k,(t.wr k).isSome=true→k.size≤8)(hmom:∀k,(s.mom k).length<1000000)(hov:¬zjk s t)(hnow:2000≤s.now)
  (hR:∀w',Kp (λ_=>False) w w'→R (.returned (.tuple #[.int .i64 0,.int .i64 3])) w') :
  Calls Tryz.prog 36 #[.pointer (some ⟨p,0,none⟩),.int .i64 tx] w R:=by
 have hkey:Hid _:=keyOf_int_mk Tryz.underlying3 hwx
 have c2:w.cell? ⟨p,7,none⟩=some (.map (some mo)):=zg h.store 7
 have d1:w.cell? ⟨pt tx,1,none⟩=some (.map (some (mw tx))):=zg (h.tx tx t e) 1
 have hw:=h.wr tx t e
 have hf:(zpc λn=>(s.txs n).map λ_=>Value.pointer (some ⟨pt n,0,none⟩)) (.int .i64 tx)=some (.pointer (some ⟨pt tx,0,none⟩)):=by rw[zrc,e];rfl
 have H:Hid (XR own c w p s mo ph mv mm pt mw sl):=h
 have hopn:=h.opn
 have HR:Hid _:=hR
 have hn:(t.nw:Int)≠0:=by omega
 have hn':((t.nw:Int) == 0)=false:=by simpa using hn
 clear h hR hnw hn
 go_enter Tryz.func36,Tryz.ntmps36
 go_wp2_with (first
  |(at_lookup;refine z8 _ rfl _ _ 99 rfl 3 129 zld Tryz.underlying99 (zdf _) mo s.nopen _ rfl hopn (.int .i64 tx) _ rfl hkey.out _ hf ?_)
  |(at_len;refine zuf _ rfl _ 130 rfl 9 138 Tryz.underlying130 (mw tx) t.nw _ rfl hw ?_)
  |(go_at_call 71;refine znj H.out tx t e hkeys hmom (λ_ w1 hk1=>?_) (λho=>absurd ho hov);have c0':w1.cell? ⟨p,2,none⟩=some (.int .i64 s.now):=zg (H.out.kept hk1).store 2)
  |go_in)
 exact HR.out w1 hk1
end
end
section
open Go.RowKit Go.Maps
section
variable {own own':Nat→Lab}{c:Nat}{w w':World}{p:Nat}{s:XS}{mo ph mv mm:Nat}{pt mw:Int→Nat}{sl:ByteArray→Value}
variable {R:Ending→World→Prop}
def outer (own:Nat→Lab)(c n:Nat):Nat→Lab:=λb=>if b<n then own b else ⟨c+1,99,0,eb⟩
theorem zvc {n b:Nat}(h:b<n):outer own c n b=own b:=by simp[outer,h]
theorem zse {n b:Nat}(h:n≤b):(outer own c n b).c≠c:=by
 have:¬b<n:=by omega
 simp[outer,this]
theorem XR.outer (h:XR own c w p s mo ph mv mm pt mw sl)(hk:Kp (λ_=>False) w w'):XR (outer own c w.heap.size) c w' p s mo ph mv mm pt mw sl:=
 h.frame (λb hb _=>hk.block b hb (λe=>e)) (λ_ hb _=>zvc hb)
theorem zid.outer (h:zid own c)(hT:Tab w):zid (outer own c w.heap.size) c:=by
 unfold zid
 rw[zvc hT.lt.1,zvc hT.lt.2]
 exact h
set_option maxRecDepth 20000 in
set_option maxHeartbeats 2000000 in
theorem zbs (h:XR own c w p s mo ph mv mm pt mw sl)(hT:Tab w)(hN:zid own c)(t:Nat)(ht:t<4294967296)(hl:s.log.lg.length≤4999)(hbs:∀b∈s.log.lg,b.length≤400)
  (hR:∀w' own' l',Kp (λb=>(own b).c=c) w w'→(∀b,b<w.heap.size→own' b=own b)→l'.lg=s.log.lg++[zxb t]→l'.sy=s.log.sy→
   XR own' c w' p { s with hor:=t,log:=l' } mo ph mv mm pt mw sl→R (.returned (.tuple #[])) w') :
  Calls Tryz.prog 46 #[.pointer (some ⟨p,0,none⟩),.agg #[.int .u8 72,.int .i64 t,.slice none 0 0]] w R:=by
 have H0:=ze h
 have HT:=ze hT
 have HN:=ze hN
 have HR:=ze hR
 have HL:=ze hl
 have HBS:=ze hbs
 have HTT:=ze ht
 have b0:(w.alloc (.cells #[.int .u8 72,.int .i64 t,.slice none 0 0] 110)).cell? ⟨w.heap.size,0,none⟩=some (.int .u8 72):=by go_simp
 have b1:(w.alloc (.cells #[.int .u8 72,.int .i64 t,.slice none 0 0] 110)).cell? ⟨w.heap.size,1,none⟩=some (.int .i64 t):=by go_simp
 have b2:(w.alloc (.cells #[.int .u8 72,.int .i64 t,.slice none 0 0] 110)).cell? ⟨w.heap.size,2,none⟩=some (.slice none 0 0):=by go_simp
 have HKA:Hid (Kp (λ_=>False) w (w.alloc (.cells #[.int .u8 72,.int .i64 t,.slice none 0 0] 110))):=Kp.alloc _ _ _
 clear h hT hN hR hl hbs ht
 go_enter Tryz.func46,Tryz.ntmps46
 go_wp2_with fail
 generalize w.alloc (.cells #[.int .u8 72,.int .i64 t,.slice none 0 0] 110)=A at b0 b1 b2 HKA ⊢
 go_region_law (refine zpd rfl 78 _ _ _ rfl Tryz.func78 (by kernel_rfl) (by kernel_rfl) _ (by simp[Act.eval];rfl) ?_;refine ziy (H0.out.outer (HKA.out.trans (Kp.drew _ _) (λ_ _ h=>h))) (HT.out.kept (HKA.out.trans (Kp.drew _ _) (λ_ _ h=>h))) (HN.out.outer HT.out) 72 t (.slice none 0 0) (zxb t) HL.out HBS.out (by rw[z6e];omega) rfl (Or.inl ⟨t,.slice none 0 0,HTT.out,rfl,rfl,rfl⟩) (λb e=>by simp[Value.ownBlock]at e) ?_;intro w1 own1 l1 hk1 ho1 _ hl1 hs1 hx1;have H1:=ze hx1;have HK1:=ze hk1;have HO1:=ze ho1;have HL1:=ze hl1;have HS1:=ze hs1;have d0:w1.cell? ⟨w.heap.size,0,none⟩=some (.int .u8 72):=(hk1.cell (a:=⟨w.heap.size,0,none⟩) (World.block_lt_of_cell? A _ b0) (λe=>zse (Nat.le_refl _) e.1)).trans b0;have d1:w1.cell? ⟨w.heap.size,1,none⟩=some (.int .i64 t):=(hk1.cell (a:=⟨w.heap.size,1,none⟩) (World.block_lt_of_cell? A _ b1) (λe=>zse (Nat.le_refl _) e.1)).trans b1;have c1:w1.cell? ⟨p,1,none⟩=some (.int .i64 s.hor):=zg hx1.store 1;have f1:w1.frozen? ⟨p,1,none⟩=false:=zx hx1.store 1;clear hk1 ho1 hl1 hs1 hx1;refine⟨_,rfl,?_⟩)
 all_goals
  clear b0 b1 b2
  go_wp2_with fail
  refine bodyPost_ret (results_none rfl _ _ _) rfl ?_
  refine HR.out _ own1 l1 ((((HKA.out.mono (λ_ _ h=>h.elim)).trans (Kp.drew _ _) (λ_ _ h=>h)).trans HK1.out (λb hb e=>?_)).trans (Kp.setCell (S:=λb=>(own b).c=c) w1 _ _ (by show (own p).c=c;rw[H0.out.ownP])) (λ_ _ h=>h)) (λb hb=>?_) HL1.out HS1.out (H1.out.setHor t)
  ·have:=e.1;rw[zvc hb]at this;exact this
  ·rw[HO1.out b (Nat.lt_of_lt_of_le hb HKA.out.size),zvc hb]
end
end
section
open Go.RowKit Go.Maps
def wrL (ws:List (ByteArray × ByteArray × Bool))(k:ByteArray):Option (ByteArray × Bool):=(ws.find? (λx=>decide (x.1=k))).map (·.2)
def zre (ws:List (ByteArray × ByteArray × Bool))(j:Nat)(v:Value):Bool:=match v with | .string k=>(ws.drop j).any (λx=>decide (x.1=k))|_=>false
theorem zrk (ws:List (ByteArray × ByteArray × Bool))(k:ByteArray):(wrL ws k).isSome=ws.any (λx=>decide (x.1=k)):=by
 unfold wrL
 rw[Option.isSome_map,Bool.eq_iff_iff,List.find?_isSome,List.any_eq_true]
theorem zby (ws:List (ByteArray × ByteArray × Bool))(hnd:(ws.map Prod.fst).Nodup):∀x∈ws,wrL ws x.1=some x.2:=by
 induction ws with
 |nil=>intro x hx;cases hx
 |cons y r ih=>
  intro x hx
  rw[List.map_cons,List.nodup_cons]at hnd
  rcases List.mem_cons.1 hx with rfl|hx
  ·simp[wrL]
  ·have hne:y.1≠x.1:=λe=>hnd.1 (by rw[e];exact List.mem_map.2 ⟨x,hx,rfl⟩)
   have:=ih hnd.2 x hx
   unfold wrL at this ⊢
   rw[List.find?_cons_of_neg (by simpa using hne)]
   exact this
theorem z1s (ws:List (ByteArray × ByteArray × Bool))(k:ByteArray):zre ws 0 (.string k)=(wrL ws k).isSome:=by rw[zrk];rfl
theorem zax (ws:List (ByteArray × ByteArray × Bool)):zre ws ws.length=λ_=>false:=by
 funext v
 unfold zre
 split<;>simp
theorem z8u (ws:List (ByteArray × ByteArray × Bool))(hnd:(ws.map Prod.fst).Nodup)(j:Nat)(x:ByteArray × ByteArray × Bool)(hx:ws[j]?=some x):zre ws j (.string x.1)=true∧zre ws (j+1) (.string x.1)=false∧∀z,z≠.string x.1→zre ws (j+1) z=zre ws j z:=by
 obtain⟨hj,rfl⟩:=List.getElem?_eq_some_iff.1 hx
 have hd:ws.drop j=ws[j]::ws.drop (j+1):=List.drop_eq_getElem_cons hj
 have hnd2:((ws.drop j).map Prod.fst).Nodup:=by
  rw[List.map_drop];exact hnd.sublist (List.drop_sublist _ _)
 rw[hd,List.map_cons,List.nodup_cons]at hnd2
 refine⟨?_,?_,λz hz=>?_⟩
 ·unfold zre;simp only[];rw[hd,List.any_cons];simp
 ·unfold zre
  simp only[]
  rw[Bool.eq_false_iff]
  intro h
  rw[List.any_eq_true]at h
  obtain⟨y,hy,e⟩:=h
  exact hnd2.1 (List.mem_map.2 ⟨y,hy,by simpa using e⟩)
 ·unfold zre
  split
  ·rename_i k
   rw[hd,List.any_cons]
   have:¬ws[j].1=k:=λe=>hz (by rw[e])
   simp[this]
  ·rfl
section
variable {own own':Nat→Lab}{c:Nat}{w w':World}{p:Nat}{s:XS}{mo ph mv mm:Nat}{pt mw:Int→Nat}{sl:ByteArray→Value}
variable {R:Ending→World→Prop}
theorem RdW.cells {g n cap:Nat}{ws:List (ByteArray × ByteArray × Bool)}(h:RdW w (.slice (some ⟨g,0,none⟩) n cap) ws){j:Nat}{x:ByteArray × ByteArray × Bool}(hx:ws[j]?=some x):w.cell? ⟨g,j*3,none⟩=some (.string x.1)∧w.cell? ⟨g,j*3+1,none⟩=some (.string x.2.1)∧w.cell? ⟨g,j*3+2,none⟩=some (.bool x.2.2):=by
 obtain⟨pw,cap',e,h1⟩:=h
 obtain⟨g',e2,hc⟩:=h1 (λe=>by rw[e]at hx;simp at hx)
 injection e with e _ _
 rw[e2]at e
 injection e with e
 injection e with e
 subst e
 exact hc j x hx
structure zau (zgh:Nat→Lab)(c:Nat)(w0:World)(p:Nat)(s:XS)(rv:Value)(ws:List (ByteArray × ByteArray × Bool))(mo ph mv mm:Nat)(pt mw:Int→Nat)(wr:World)(own':Nat→Lab)(sl':ByteArray→Value)(j nv nm:Nat):Prop where
 xr:XR own' c wr p (zqd s ⟨0,wrL ws,0⟩ (zre ws j) nv nm) mo ph mv mm pt mw sl'
 ownE:∀b,b<w0.heap.size→own' b=zgh b
 kp:Kp (λb=>(zgh b).c=c) w0 wr
 hv:nv≤s.nv+j
 hm:nm≤s.nm+j
 rd:RdW wr rv ws
theorem zuz {zgh:Nat→Lab}{w0 wr W:World}{rv:Value}{ws:List (ByteArray × ByteArray × Bool)}{sl':ByteArray→Value}{j nv nm:Nat}(hM:zau zgh c w0 p s rv ws mo ph mv mm pt mw wr own' sl' j nv nm)(hnd:(ws.map Prod.fst).Nodup)
  (key val:ByteArray) (g:Bool) (hx:ws[j]?=some (key,val,g)) (hlen:key.size≤8) (hnow:0≤s.now∧s.now<2000) (hmom:(s.mom key).length<1000000) (hnv:s.nv+j<1000000) (hnm:s.nm+j<1000000) (hrv:∀b,rv.ownBlock=some b→b<w0.heap.size∧(zgh b).c≠c)
  (hKW:Kp (λ_=>False) wr W)
  (hR:∀w' own'' sl'' nv' nm',zau zgh c w0 p s rv ws mo ph mv mm pt mw w' own'' sl'' (j+1) nv' nm'→R (.returned (.tuple #[])) w') :
  Calls Tryz.prog 79 #[.pointer (some ⟨ph,0,none⟩),.string key,.int .i64 (s.now+1),.agg #[.string val,.bool g]] W R:=by
 obtain⟨hl1,hl2,hl3⟩:=z8u ws hnd j _ hx
 have hwr:wrL ws key=some (val,g):=zby ws hnd (key,val,g) (List.mem_of_getElem? hx)
 have hxW:=hM.xr.kept hKW
 have hmk:(zqd s ⟨0,wrL ws,0⟩ (zre ws j) nv nm).mom key=s.mom key:=by simp[zqd,hl1]
 have hv:=hM.hv;have hm:=hM.hm
 have kW:Kp (λb=>(zgh b).c=c) w0 W:=hM.kp.trans hKW (λ_ _ h=>h.elim)
 refine za4 hxW key val g (s.now+1) hlen (WalkArith.wf_i64 (by omega)) (by rw[hmk];omega) (show nm<1000000 by omega) (show nv<1000000 by omega) (λw' own'' sl'' nv' nm' hk' ho' h1 h2 hx'=>?_)
 have h1':nv'≤nv+1:=h1
 have h2':nm'≤nm+1:=h2
 have hc:∀b,(b=mv∨b=mm∨own' b=⟨c,7,0,key⟩)→(own' b).c=c:=λb h=>by
  rcases h with h|h|h
  ·rw[h,hxW.ownV]
  ·rw[h,hxW.ownM]
  ·rw[h]
 refine hR w' own'' sl'' nv' nm' ⟨?_,λb hb=>?_,?_,by omega,by omega,?_⟩
 ·rw[← zew s ⟨0,wrL ws,0⟩ (zre ws j) (zre ws (j+1)) nv nm nv' nm' key (val,g) hwr hl1 hl2 hl3];exact hx'
 ·rw[ho' b (Nat.lt_of_lt_of_le hb kW.size)];exact hM.ownE b hb
 ·refine kW.trans hk' (λb hb h=>?_)
  rw[← hM.ownE b hb];exact hc b h
 ·refine (hM.rd.kept hKW).kp hk' (λb e h=>?_)
  obtain⟨h3,h4⟩:=hrv b e
  exact h4 (by rw[← hM.ownE b h3];exact hc b h)
set_option maxRecDepth 20000 in
set_option maxHeartbeats 4000000 in
theorem zam (h:XR own c w p s mo ph mv mm pt mw sl)(hT:Tab w)(hN:zid own c)(rv:Value)(ws:List (ByteArray × ByteArray × Bool))(h1c:rv.oneCell'=true)(hrd:RdW w rv ws)(hne:ws≠[])(hnd:(ws.map Prod.fst).Nodup)(hn:ws.length≤10)(hsz:∀x∈ws,x.1.size≤8∧x.2.1.size≤20)(hrv:∀b,rv.ownBlock=some b→(own b).c≠c)
  (hl:s.log.lg.length≤4999) (hbs:∀b∈s.log.lg,b.length≤400) (hnow:0≤s.now∧s.now<2000) (hmom:∀k,(s.mom k).length<1000000) (hnv:s.nv+10<1000000) (hnm:s.nm+10<1000000) (t:Nat) (ht:(t:Int)=s.now+1)
  (hR:∀w' own' sl' l' nv' nm',Kp (λb=>(own b).c=c) w w'→(∀b,b<w.heap.size→own' b=own b)→l'.lg=s.log.lg++[zbb t ws]→l'.sy=s.log.sy→nv'≤s.nv+ws.length→nm'≤s.nm+ws.length→
   XR own' c w' p (zqd { s with log:=l' } ⟨0,wrL ws,0⟩ (λ_=>false) nv' nm') mo ph mv mm pt mw sl'→R (.returned (.tuple #[])) w') :
  Calls Tryz.prog 46 #[.pointer (some ⟨p,0,none⟩),.agg #[.int .u8 67,.int .i64 t,rv]] w R:=by
 obtain⟨pw,cap,rfl,hw1⟩:=hrd
 obtain⟨g,rfl,hc⟩:=hw1 hne
 have HRD:Hid (RdW w (.slice (some ⟨g,0,none⟩) ws.length cap) ws):=⟨_,cap,rfl,hw1⟩
 have H0:=ze h
 have HT:=ze hT
 have HN:=ze hN
 have HR:=ze hR
 have HL:=ze hl
 have HBS:=ze hbs
 have HSZ:=ze hsz
 have HND:=ze hnd
 have HRV:=ze hrv
 have HNE:=ze hne
 have HNL:=ze hn
 have HNOW:=ze hnow
 have HMOM:=ze hmom
 have HNV:=ze hnv
 have HNM:=ze hnm
 have HGL:Hid (g<w.heap.size):=by
  obtain⟨x,hx⟩:∃x,ws[0]?=some x:=⟨ws[0]'(List.length_pos_iff.2 hne),List.getElem?_eq_getElem (List.length_pos_iff.2 hne)⟩
  exact World.block_lt_of_cell? w _ (hc 0 x hx).1
 have HBL:Hid ((zbb t ws).length≤400):=by
  have:=zch t ws hsz
  show _≤_
  omega
 have ht2:(t:Int)≤2000:=by omega
 have HTL:Hid (t<4294967296):=by show _<_;omega
 have hn':(ws.length:Int)≤10:=by omega
 have HTE:=ze ht
 have b0:(w.alloc (.cells #[.int .u8 67,.int .i64 t,.slice (some ⟨g,0,none⟩) ws.length cap] 110)).cell? ⟨w.heap.size,0,none⟩=some (.int .u8 67):=by go_simp
 have b1:(w.alloc (.cells #[.int .u8 67,.int .i64 t,.slice (some ⟨g,0,none⟩) ws.length cap] 110)).cell? ⟨w.heap.size,1,none⟩=some (.int .i64 t):=by go_simp
 have b2:(w.alloc (.cells #[.int .u8 67,.int .i64 t,.slice (some ⟨g,0,none⟩) ws.length cap] 110)).cell? ⟨w.heap.size,2,none⟩=some (.slice (some ⟨g,0,none⟩) ws.length cap):=by go_simp
 have HKA:Hid (Kp (λ_=>False) w (w.alloc (.cells #[.int .u8 67,.int .i64 t,.slice (some ⟨g,0,none⟩) ws.length cap] 110))):=Kp.alloc _ _ _
 clear h hT hN hR hl hbs hsz hnd hrv hne hn hnow hmom hnv hnm hw1 hc ht
 go_enter Tryz.func46,Tryz.ntmps46
 go_wp2_with fail
 generalize w.alloc (.cells #[.int .u8 67,.int .i64 t,.slice (some ⟨g,0,none⟩) ws.length cap] 110)=A at b0 b1 b2 HKA ⊢
 go_region_law (refine zpd rfl 78 _ _ _ rfl Tryz.func78 (by kernel_rfl) (by kernel_rfl) _ (by simp[Act.eval];rfl) ?_;refine ziy (H0.out.outer (HKA.out.trans (Kp.drew _ _) (λ_ _ h=>h))) (HT.out.kept (HKA.out.trans (Kp.drew _ _) (λ_ _ h=>h))) (HN.out.outer HT.out) 67 t (.slice (some ⟨g,0,none⟩) ws.length cap) (zbb t ws) HL.out HBS.out HBL.out rfl (Or.inr ⟨t,_,ws,HTL.out,rfl,rfl,HRD.out.kept (HKA.out.trans (Kp.drew _ _) (λ_ _ h=>h)),HNE.out,by have:=HNL.out;omega,λx hx=>by have:=HSZ.out x hx;omega,rfl⟩) (λb e=>by simp only[Value.ownBlock,Option.some.injEq]at e;subst e;rw[zvc HGL.out];exact HRV.out g rfl) ?_;intro w1 own1 l1 hk1 ho1 _ hl1 hs1 hx1;have H1:=ze hx1;have HK1:=ze hk1;have HO1:=ze ho1;have HL1:=ze hl1;have HS1:=ze hs1;have d0:w1.cell? ⟨w.heap.size,0,none⟩=some (.int .u8 67):=(hk1.cell (a:=⟨w.heap.size,0,none⟩) (World.block_lt_of_cell? A _ b0) (λe=>zse (Nat.le_refl _) e.1)).trans b0;have d1:w1.cell? ⟨w.heap.size,1,none⟩=some (.int .i64 t):=(hk1.cell (a:=⟨w.heap.size,1,none⟩) (World.block_lt_of_cell? A _ b1) (λe=>zse (Nat.le_refl _) e.1)).trans b1;have d2:w1.cell? ⟨w.heap.size,2,none⟩=some (.slice (some ⟨g,0,none⟩) ws.length cap):=(hk1.cell (a:=⟨w.heap.size,2,none⟩) (World.block_lt_of_cell? A _ b2) (λe=>zse (Nat.le_refl _) e.1)).trans b2;have c1:w1.cell? ⟨p,2,none⟩=some (.int .i64 s.now):=zg hx1.store 2;have f1:w1.frozen? ⟨p,2,none⟩=false:=zx hx1.store 2;have npb:w.heap.size≠p:=λe=>zse (own:=own) (c:=c) (Nat.le_refl w.heap.size) (by rw[e,zvc (by rw[← e];exact absurd (zh H0.out.store) (by rw[← e];exact Nat.lt_irrefl _))];rw[H0.out.ownP]);clear hk1 ho1 hl1 hs1 hx1;refine⟨_,rfl,?_⟩)
 all_goals
  clear b0 b1 b2
  go_wp2_with fail
  have HW1:Hid (Kp (λb=>(own1 b).c=c) w1 (w1.setCell ⟨p,2,none⟩ (.int .i64 t))):=Kp.setCell w1 _ _ (by show (own1 p).c=c;rw[H1.out.ownP])
  have HX1:Hid (XR own1 c (w1.setCell ⟨p,2,none⟩ (.int .i64 t)) p (zqd { s with log:=l1 } ⟨0,wrL ws,0⟩ (zre ws 0) s.nv s.nm) mo ph mv mm pt mw sl):=by
   have h1:=H1.out.tick t
   rw[HTE.out]at h1
   have h2:=zsu { s with log:=l1 } ⟨0,wrL ws,0⟩ (zre ws 0) (λk=>z1s ws k)
   rw[HTE.out]
   show XR _ _ _ _ (zqd { s with log:=l1 } ⟨0,wrL ws,0⟩ (zre ws 0) ({ s with log:=l1 }:XS).nv ({ s with log:=l1 }:XS).nm) _ _ _ _ _ _ _
   rw[h2];exact h1
  have HG1:Hid (own1 g=own g):=(HO1.out g (Nat.lt_of_lt_of_le HGL.out HKA.out.size)).trans (zvc HGL.out)
  have HGW:Hid (g<(w1.setCell ⟨p,2,none⟩ (.int .i64 t)).heap.size):=Nat.lt_of_lt_of_le (Nat.lt_of_lt_of_le (Nat.lt_of_lt_of_le HGL.out HKA.out.size) HK1.out.size) HW1.out.size
  have HRD1:Hid (RdW (w1.setCell ⟨p,2,none⟩ (.int .i64 t)) (.slice (some ⟨g,0,none⟩) ws.length cap) ws):=by
   refine ((HRD.out.kept (HKA.out.trans (Kp.drew _ _) (λ_ _ h=>h))).kp HK1.out (λb e h=>?_)).kp HW1.out (λb e h=>?_)
   ·simp only[Value.ownBlock,Option.some.injEq]at e
    subst e
    have:=h.1
    rw[zvc HGL.out]at this
    exact HRV.out g rfl this
   ·simp only[Value.ownBlock,Option.some.injEq]at e
    subst e
    rw[HG1.out]at h
    exact HRV.out g rfl h
  generalize hW1:w1.setCell ⟨p,2,none⟩ (.int .i64 t)=W1 at HW1 HX1 HGW HRD1 ⊢
  clear d0 d1 d2 c1 f1
  go_loopw [29] (λv29 wr=>∃(j:Nat) (own':Nat→Lab) (sl':ByteArray→Value) (nv nm:Nat),j≤ws.length∧v29 = .int .i64 j∧zau own1 c W1 p { s with log:=l1 } (.slice (some ⟨g,0,none⟩) ws.length cap) ws mo ph mv mm pt mw wr own' sl' j nv nm) (λv29 _=>ws.length-(intOf v29).toNat)
  case atStart=>exact⟨0,own1,sl,s.nv,s.nm,Nat.zero_le _,rfl,HX1.out,λ_ _=>rfl,Kp.refl _ _,Nat.le_refl _,Nat.le_refl _,HRD1.out⟩
  case round=>
   obtain⟨j,own',sl',nv,nm,hj,rfl,hM⟩:=hrel
   by_cases hlt:j<ws.length
   ·obtain⟨x,hx⟩:∃x,ws[j]?=some x:=⟨ws[j],List.getElem?_eq_getElem hlt⟩
    obtain⟨a0,a1,a2⟩:=hM.rd.cells hx
    obtain⟨key,val,gone⟩:=x
    have HM:=ze hM
    have hjl:(j:Int)<ws.length:=by omega
    clear hM
    go_wp2_with fail
    clear a0 a1 a2
    have e0:(wr.alloc (.cells #[.string key,.string val,.bool gone] 153)).cell? ⟨wr.heap.size,0,none⟩=some (.string key):=by go_simp
    have e1:(wr.alloc (.cells #[.string key,.string val,.bool gone] 153)).cell? ⟨wr.heap.size,1,none⟩=some (.string val):=by go_simp
    have e2:(wr.alloc (.cells #[.string key,.string val,.bool gone] 153)).cell? ⟨wr.heap.size,2,none⟩=some (.bool gone):=by go_simp
    have hkw:Kp (λ_=>False) wr (wr.alloc (.cells #[.string key,.string val,.bool gone] 153)):=Kp.alloc _ _ _
    generalize wr.alloc (.cells #[.string key,.string val,.bool gone] 153)=W at e0 e1 e2 hkw ⊢
    have hxW:=HM.out.xr.kept hkw
    have d3:W.cell? ⟨p,0,none⟩=some (.pointer (some ⟨ph,0,none⟩)):=zg hxW.store 0
    have d0:W.cell? ⟨p,2,none⟩=some (.int .i64 (s.now+1)):=zg hxW.store 2
    have Hgo:Hid (∀{R:Ending→World→Prop},(∀w' own'' sl'' nv' nm',zau own1 c W1 p { s with log:=l1 } (.slice (some ⟨g,0,none⟩) ws.length cap) ws mo ph mv mm pt mw w' own'' sl'' (j+1) nv' nm'→R (.returned (.tuple #[])) w')→Calls Tryz.prog 79 #[.pointer (some ⟨ph,0,none⟩),.string key,.int .i64 (s.now+1),.agg #[.string val,.bool gone]] W.drew R):=
     λhR=>zuz HM.out HND.out key val gone hx (HSZ.out _ (List.mem_of_getElem? hx)).1 HNOW.out (HMOM.out key) (by have:=HNV.out;have:=HNL.out;show s.nv+j<1000000;omega) (by have:=HNM.out;have:=HNL.out;show s.nm+j<1000000;omega) (λb e=>by simp only[Value.ownBlock,Option.some.injEq]at e;subst e;exact⟨HGW.out,by rw[HG1.out];exact HRV.out g rfl⟩) (hkw.trans (Kp.drew _ _) (λ_ _ h=>h)) hR
    clear hxW hkw hx
    go_region_law (refine zpd rfl 79 _ _ _ rfl Tryz.func79 (by kernel_rfl) (by kernel_rfl) _ (by simp[Act.eval];rfl) ?_;refine Hgo.out ?_;intro w5 own5 sl5 nv5 nm5 hM5;have HM5:=ze hM5;clear hM5;refine⟨_,rfl,?_⟩)
    all_goals
     clear e0 e1 e2 d0 d3 Hgo
     go_wp2_with fail
     first
      |go_roundw
       case rel=>exact⟨j+1,own5,sl5,nv5,nm5,by omega,by go_num,HM5.out⟩
       case measure=>simp[intOf];omega
      |exact⟨⟨j+1,own5,sl5,nv5,nm5,by omega,by go_num,HM5.out⟩,by simp[intOf];omega⟩
   ·have hj':j=ws.length:=by omega
    subst hj'
    have HM:=ze hM
    clear hM
    go_wp2_with fail
    first|go_end0|skip
    refine HR.out _ own' sl' l1 nv nm ((((HKA.out.mono (λ_ _ h=>h.elim)).trans (Kp.drew _ _) (λ_ _ h=>h)).trans HK1.out (λb hb e=>?_)).trans (HW1.out.trans HM.out.kp (λ_ _ h=>h)) (λb hb e=>?_)) (λb hb=>?_) HL1.out HS1.out HM.out.hv HM.out.hm ?_
    ·have:=e.1;rw[zvc hb]at this;exact this
    ·have hb1:=Nat.lt_of_lt_of_le hb HKA.out.size
     rw[HO1.out b hb1,zvc hb]at e
     exact e
    ·have hb1:=Nat.lt_of_lt_of_le hb HKA.out.size
     rw[HM.out.ownE b (Nat.lt_of_lt_of_le (Nat.lt_of_lt_of_le hb1 HK1.out.size) HW1.out.size),HO1.out b hb1,zvc hb]
    ·have:=HM.out.xr
     rw[zax]at this
     exact this
end
end
section
open Go.RowKit Go.Maps
section
variable {P:Program}{k:TypeId}{w:World}{b n:Nat}{f:Value→Option Value}
theorem zal {D:DataW Value}{R:Value→Option (DataW Value × List MemPlace)}(h:w.ownsMap P k R b n D){es:List (Lit × DataW Value)}(e:D = .map es):∀p∈es,∃x,keyOf P k x=some p.1:=by
 obtain⟨es0,clock,_,F,_,hD⟩:=h
 intro p hp
 rw[hD]at e
 injection e with e
 subst e
 obtain⟨x,hx,rfl⟩:=List.mem_map.1 (mem_sorted.1 hp)
 obtain⟨y,hy⟩:=F.reads x hx
 exact⟨x.key,by rw[WideElems.rg_of hy];exact WideElems.rd_key hy⟩
theorem fmap.card (h:fmap w P k b n f)(K:Keyed P k)(L:List Value)(hn:L.Nodup)(hL:∀x,x∈L↔(f x).isSome=true):n=L.length:=by
 obtain⟨D,hO,hs,hf⟩:=h
 obtain⟨es,eD,hp⟩:=hO.tidy K
 have hfrom:=zal hO eD
 rw[← hs,eD]
 show es.length=L.length
 have key:∀x∈L,∃l,keyOf P k x=some l:=λx hx=>hf.key x ((hL x).1 hx)
 have h1:(L.map λx=>keyOf P k x).Nodup:=by
  unfold List.Nodup
  rw[List.pairwise_map]
  refine List.Pairwise.imp_of_mem (λ{a b} ha hb hne e=>?_) hn
  obtain⟨l,hl⟩:=key a ha
  exact hne (K.inj hl (e ▸ hl))
 have h2:(es.map λp=>some p.1).Nodup:=by
  unfold List.Nodup
  rw[List.pairwise_map]
  exact hp.imp (λhne e=>hne (by injection e))
 have hperm:(L.map λx=>keyOf P k x).Perm (es.map λp=>some p.1):=by
  rw[List.perm_ext_iff_of_nodup h1 h2]
  intro a
  rw[List.mem_map,List.mem_map]
  constructor
  ·rintro⟨x,hx,rfl⟩
   obtain⟨l,hl⟩:=key x hx
   have hh:=hf.has x l hl
   rw[(hL x).1 hx,eD,has_eq]at hh
   obtain⟨p,hp,hsk⟩:=List.any_eq_true.1 hh
   exact⟨p,hp,by rw[hl,WideAt.sameKey_eq hsk]⟩
  ·rintro⟨p,hp,rfl⟩
   obtain⟨x,hx⟩:=hfrom p hp
   refine⟨x,?_,hx⟩
   rw[hL,← hf.has x p.1 hx,eD,has_eq,List.any_eq_true]
   exact⟨p,hp,WideAt.sameKey_self (K.key hx)⟩
 have:=hperm.length_eq
 simpa using this.symm
end
theorem zmw {g:ByteArray→Int→Option (ByteArray × Bool)}{x:Value}:(zkf (λk m=>(g k m).map z4b) x).isSome=true↔∃k m,x = .agg #[.string k,.int .i64 m]∧(g k m).isSome=true:=by
 constructor
 ·intro h
  unfold zkf at h
  split at h
  ·rename_i cs
   split at h
   ·rename_i s n hcs
    refine⟨s,n,?_,by simpa using h⟩
    have:cs=#[.string s,.int .i64 n]:=by apply Array.toList_inj.1;simpa using hcs
    rw[this]
   ·cases h
  ·cases h
 ·rintro⟨k,m,rfl,h⟩
  rw[zol]
  simpa using h
section
variable {own:Nat→Lab}{c:Nat}{w:World}{p:Nat}{s:XS}{mo ph mv mm:Nat}{pt mw:Int→Nat}{sl:ByteArray→Value}
theorem XR.nv_eq (h:XR own c w p s mo ph mv mm pt mw sl)(hK:Keyed Tryz.prog 225)(hup:∀k,(s.mom k).Pairwise (·<·))(hver:∀k m,(s.ver k m).isSome=true↔m∈s.mom k)(ks:List ByteArray)(hn:ks.Nodup)(hks:∀k,s.mom k≠[]→k∈ks) :
  s.nv=(ks.map λk=>(s.mom k).length).sum:=by
 have:=h.vers.card hK (ks.flatMap λk=>(s.mom k).map λm=>Value.agg #[.string k,.int .i64 m]) ?_ ?_
 ·rw[this,List.length_flatMap]
  simp
 ·unfold List.Nodup
  rw[List.pairwise_flatMap]
  refine⟨λk _=>?_,?_⟩
  ·rw[List.pairwise_map]
   exact (hup k).imp (λhlt e=>by injection e with e;injection e with e;injection e with _ e;injection e with e _;injection e with _ e;omega)
  ·refine hn.imp (λ{a b} hne x hx y hy e=>?_)
   obtain⟨m,_,rfl⟩:=List.mem_map.1 hx
   obtain⟨m',_,rfl⟩:=List.mem_map.1 hy
   injection e with e;injection e with e;injection e with e _;injection e with e
   exact hne e
 ·intro x
  rw[zmw,List.mem_flatMap]
  constructor
  ·rintro⟨k,_,hx⟩
   obtain⟨m,hm,rfl⟩:=List.mem_map.1 hx
   exact⟨k,m,rfl,(hver k m).2 hm⟩
  ·rintro⟨k,m,rfl,hx⟩
   have hm:=(hver k m).1 hx
   exact⟨k,hks k (λe=>by rw[e]at hm;cases hm),List.mem_map.2 ⟨m,hm,rfl⟩⟩
end
end
end Go.Proofs.YthbdpfccfcceiaaGreatDoor
