/-
  Of the proof of logsUpto_card.
-/
import Derived.Test.YthbdpfccfcceiaaGreatDoorT2x
import Derived.Laws.IdiomStrings
namespace Go.Proofs.YthbdpfccfcceiaaGreatDoor
section
open Go.RowKit
section
variable {P:Program}{w w':World}
theorem znv {base e size:Nat}{u:Value}{k:Nat}{ys zs:List Value}(hu:w.ownsRow base e size u k ys)(hz:ys <+: zs){g:Nat}{cur:Array Value}{rest:List Value}(hc:w.heap[g]?=some (.cells cur e (0,0)))
  (hw:w'.heap[g]?=some (.cells (zs++rest).toArray e (0,0))) (hsz:(zs++rest).length=cur.size) (hb:∀b,b<w.heap.size→b≠g→w'.heap[b]?=w.heap[b]?):w'.ownsRow base e size u k ys:=by
 refine⟨hu.1,?_⟩
 rcases hu.2 with h|⟨b,cap,cu,rfl,hb0,hg,h1,h2,h3,h4⟩
 ·exact Or.inl h
 ·by_cases hbg:b=g
  ·subst hbg
   rw[hg]at hc
   injection hc with hc
   injection hc with hc1 hc2 hc3
   refine Or.inr ⟨b,cap,_,rfl,hb0,hw,h1,h2,?_,?_⟩
   ·rw[List.size_toArray,hsz,← hc1,h3]
   ·obtain⟨t,rfl⟩:=hz
    rw[← hu.1]
    simp
  ·exact Or.inr ⟨b,cap,cu,rfl,hb0,(hb b (zh hg) hbg).trans hg,h1,h2,h3,h4⟩
theorem zis (base:Nat)(t ty e:TypeId)(i:TypeInfo)(z:Value)(size bytes:Nat)(ht:P.underlying t=some (.slice e))(hi:P.info? e=some i)(hz:i.zero=some z)
  (hsize:i.size=size) (hby:i.bytes=bytes)
  (v:Value) (n:Nat) (xs:List Value) (hown:w.ownsRow base e size v n xs)
  (a:Addr) (m c:Nat) (news:List Value) (hl:news.length=m*size) (hnews:∀j u,news[j]?=some u→w.cell? (a.add j)=some u) (h1:∀u∈news,u.oneCell'=true)
  (h63:n+m≤maxLen) (hbytes:(n+m)*bytes≤140737488355328) (hm:0<m) {v':Value}
  (hrun:(Builtin.append_ #[t,t] ty #[v,.slice (some a) m c]).run P w = .ok v' w') (u:Value) (k:Nat) (ys:List Value) (hu:w.ownsRow base e size u k ys) (hp:ys <+: xs++news):w'.ownsRow base e size u k ys:=by
 subst hsize
 subst hby
 have hsmall:n+m≤9223372036854775807:=by simp only[maxLen]at h63;omega
 rcases hown.2 with ⟨rfl,rfl⟩|⟨g,cap,cur,rfl,hbg,hg,hnc,hcm,hcs,htake⟩
 ·have hr:=run_append_nil (P:=P) w t ty e i z ht hi hz a m c news hl hnews hm (by omega) (by have hb:=hbytes;simp only[Nat.zero_add]at hb;omega)
  rw[hr]at hrun
  injection hrun with _ hrun
  subst hrun
  exact zi hu ((Kp.drew (λ_=>False) w).trans (Kp.alloc (λ_=>False) _ _) (λ_ _ h=>h)) (λ_ _ h=>h)
 ·by_cases hroom:n+m≤cap
  ·have hfit:n*i.size+news.length≤cur.size:=by rw[hl,hcs,← Nat.add_mul];exact Nat.mul_le_mul_right _ hroom
   have hr:=run_append_room (P:=P) w t ty e i ht hi g n cap cur hg a m c news hl hnews h1 hroom hfit
   rw[hr]at hrun
   injection hrun with _ hrun
   subst hrun
   have hs:=setRow_heap w g cur (cur.toList.take (n*i.size)++news++cur.toList.drop (n*i.size+news.length)).toArray e (0,0) hg
   rw[htake]at hs ⊢
   refine znv hu hp (g:=g) (rest:=cur.toList.drop (n*i.size+news.length)) hg hs ?_ (λb _ hb=>setRow_other w g b _ hb)
   simp only[List.length_append,List.length_drop,Array.length_toList,hown.1]
   omega
  ·have holds:∀j u,xs[j]?=some u→w.cell? ((⟨g,0,none⟩:Addr).add j)=some u:=hown.cells (g:=g) rfl
   have hr:=run_append_grow (P:=P) w t ty e i z ht hi hz ⟨g,0,none⟩ n cap xs hown.1 holds a m c news hl hnews (by omega) (by omega) (growslice_fits (by omega) hbytes)
   rw[hr]at hrun
   injection hrun with _ hrun
   subst hrun
   exact zi hu ((Kp.drew (λ_=>False) w).trans (Kp.alloc (λ_=>False) _ _) (λ_ _ h=>h)) (λ_ _ h=>h)
theorem zz {ops:Array Oper}{rest:List Oper}{o:Oper}{a:Act}{Q:Exit→Act→World→Prop}(hgd:o.guard=none)(s x:Operand)(t:TypeId)
  (hop:o.op=Op.call { callee:=Callee.builtin Builtin.append,args:=#[s,x],argTypes:=#[t,t] })
  (base:Nat) (e:TypeId) (i:TypeInfo) (z:Value) (size bytes:Nat) (h1:P.underlying t=some (.slice e)) (h2:P.info? e=some i) (h3:i.zero=some z) (h4:i.size=size) (h5:i.bytes=bytes) (h6:z.cells.size=size) (h7:0<size)
  (v:Value) (n:Nat) (xs:List Value) (hs:a.eval s=v) (hown:w.ownsRow base e size v n xs)
  (ad:Addr) (m c:Nat) (news:List Value) (hx:a.eval x = .slice (some ad) m c) (hn:news.length=m*size) (hc:∀j u,news[j]?=some u→w.cell? (ad.add j)=some u) (h1c:∀u∈news,u.oneCell'=true)
  (b1:n+m≤maxLen) (b2:(n+m)*bytes≤140737488355328) (hbase:base≤w.heap.size) (hm:0<m)
  (hK:∀v' w',w'.ownsRow base e size v' (n+m) (xs++news)→w.grownBy w' v.ownBlock→(v'.ownBlock=v.ownBlock∨v'.ownBlock=some w.heap.size)→(∀u k ys,w.ownsRow base e size u k ys→ys <+: xs++news→w'.ownsRow base e size u k ys)→wpList P ops Q rest (a.put o.dst v') w') :
  wpList P ops Q (o::rest) a w:=by
 obtain⟨v',w',hrun,r1,r2,_,r4⟩:=run_append_own_at (P:=P) w base t o.type e i z size bytes h1 h2 h3 h4 h5 h6 h7 v n xs hown ad m c news hn hc h1c b1 b2 hbase
 have hkeep:=zis base t o.type e i z size bytes h1 h2 h3 h4 h5 v n xs hown ad m c news hn hc h1c b1 b2 hm hrun
 refine wpList_plain hgd λ_ hKK=>?_
 unfold Oper.wp execOp
 simp only[hop,resolve,invoke,builtin,Sem.run_bind,Sem.run_pure,Result.andThen_ok,List.map_toArray,List.map_cons,List.map_nil,hs,hx,hrun]
 exact hKK _ _ (hK v' w' r1 r2 r4 hkeep)
end
end
section
open Go.RowKit
def zsc (k:Int):ByteArray:=⟨#[UInt8.ofNat (k % 256).toNat,UInt8.ofNat (k / 256 % 256).toNat]⟩
theorem zxo (k:Int)(w:World):(convert 48 9 (.slice (some ⟨w.heap.size,0,none⟩) 2 2)).run Tryz.prog (w.alloc (.cells #[.int .u8 (k % 256),.int .u8 (k / 256 % 256)] 5)) = .ok (.string (zsc k)) (w.alloc (.cells #[.int .u8 (k % 256),.int .u8 (k / 256 % 256)] 5)):=by
 have h:=run_convert_bytes_back (P:=Tryz.prog) (w.alloc (.cells #[.int .u8 (k % 256),.int .u8 (k / 256 % 256)] 5)) 48 9 5 ⟨w.heap.size,0,none⟩ 2 [UInt8.ofNat (k % 256).toNat,UInt8.ofNat (k / 256 % 256).toNat] Tryz.underlying48 Tryz.underlying5 Tryz.underlying9 (λj hj=>?_)
 ·exact h
 ·have h1:=heap_alloc_new w (.cells #[.int .u8 (k % 256),.int .u8 (k / 256 % 256)] 5)
  have e1:((UInt8.ofNat (k % 256).toNat).toNat:Int)=k % 256:=by
   rw[UInt8.toNat_ofNat'];omega
  have e2:((UInt8.ofNat (k / 256 % 256).toNat).toNat:Int)=k / 256 % 256:=by
   rw[UInt8.toNat_ofNat'];omega
  rcases (by simpa using hj:j<2) with hj2
  rcases (by omega:j=0∨j=1) with rfl|rfl
  ·show World.cell? _ ⟨w.heap.size,0,none⟩=_
   rw[zg h1]
   show some _=some _
   simp only[List.getElem_cons_zero,e1]
   rfl
  ·show World.cell? _ ⟨w.heap.size,1,none⟩=_
   rw[zg h1]
   show some _=some _
   simp only[List.getElem_cons_succ,List.getElem_cons_zero,e2]
   rfl
theorem zyk (w:World)(cs:Array Value)(t:TypeId):∀j u,cs.toList[j]?=some u→(w.alloc (.cells cs t)).cell? ((⟨w.heap.size,0,none⟩:Addr).add j)=some u:=by
 intro j u hj
 have e:(⟨w.heap.size,0,none⟩:Addr).add j=⟨w.heap.size,j,none⟩:=by unfold Addr.add;split<;>simp_all
 rw[e,zg (heap_alloc_new w _)]
 simpa using hj
theorem zb2 (w:World)(a b c d e f:Value)(t:TypeId):∀j u,[a,b,c,d,e,f][j]?=some u→(w.alloc (.cells #[a,b,c,d,e,f] t)).cell? ((⟨w.heap.size,0,none⟩:Addr).add j)=some u:=λj u h=>zyk w #[a,b,c,d,e,f] t j u h
theorem zpw (w:World)(p:Nat)(y x1 x2 x3 x4:Value)(t:TypeId):∀j u,[x1,x2,x3,x4][j]?=some u→((w.setCell ⟨p,5,none⟩ y).alloc (.cells #[x1,x2,x3,x4] t)).cell? ((⟨w.heap.size,0,none⟩:Addr).add j)=some u:=by
 have h:=zxe (w.setCell ⟨p,5,none⟩ y) x1 x2 x3 x4 t
 have e:(w.setCell ⟨p,5,none⟩ y).heap.size=w.heap.size:=by simp[World.setCell]
 rw[e]at h
 exact h
def zov (w:World)(g o:Nat)(a b:ByteArray):World:=(w.setCell ⟨g,o,none⟩ (.string a)).setCell ⟨g,o+1,none⟩ (.string b)
theorem zdo (w:World)(g o:Nat)(a b:ByteArray):Kp (λb=>b=g) w (zov w g o a b):=
 (Kp.setCell w _ _ (S:=λb=>b=g) rfl).trans (Kp.setCell (S:=λb=>b=g) _ _ _ rfl) (λ_ _ h=>h)
theorem zdn:∀(l:List (ByteArray × ByteArray)) (i:Nat) (_:i<l.length) (a b:ByteArray),((z9 l).set (i*2) (.string a)).set (i*2+1) (.string b)=z9 (l.set i (a,b))
 |x::r,0,_,a,b=>by simp[z9]
 |x::r,i+1,hi,a,b=>by
  have ih:=zdn r i (by simpa using hi) a b
  have e:z9 (x::r) = .string x.1::.string x.2::z9 r:=by simp[z9]
  have e':z9 ((x::r).set (i+1) (a,b)) = .string x.1::.string x.2::z9 (r.set i (a,b)):=by simp[z9]
  rw[e,e',← ih,show (i+1)*2=i*2+1+1 by omega]
  rfl
theorem zc0 {w:World}{base n:Nat}{v:Value}{l:List (ByteArray × ByteArray)}(h:w.ownsRow base 105 2 v n (z9 l))(i:Nat)(hi:i<n)(g cap:Nat)(hv:v = .slice (some ⟨g,0,none⟩) n cap)(a b:ByteArray) :
  (zov w g (i*2) a b).ownsRow base 105 2 v n (z9 (l.set i (a,b))):=by
 have hl:l.length=n:=by have:=h.1;rw[zai]at this;omega
 rcases h.2 with ⟨_,h0⟩|⟨g',cap',cur,hv',hb,hg,hn,hm,hcs,ht⟩
 ·omega
 ·rw[hv]at hv';cases hv'
  refine⟨by rw[zai,List.length_set,hl],Or.inr ⟨g,cap,(cur.setIfInBounds (i*2) (.string a)).setIfInBounds (i*2+1) (.string b),hv,hb,?_,hn,hm,by simpa using hcs,?_⟩⟩
  ·unfold zov
   exact zq (zq hg _) _
  ·simp only[Array.toList_setIfInBounds,List.take_set]
   rw[ht]
   exact zdn l i (by omega) a b
theorem z1k {α:Type}(l:List α)(i:Nat)(h:i<l.length)(m:α):(List.replicate i m++l.drop i).set i m=List.replicate (i+1) m++l.drop (i+1):=by
 rw[List.set_append_right _ _ (by simp),List.replicate_succ',List.append_assoc]
 simp only[List.length_replicate,Nat.sub_self]
 rw[List.drop_eq_getElem_cons h]
 rfl
theorem z9j (n:Nat)(m:ByteArray):z9 (List.replicate (n+1) (eb,m))=z9 (List.replicate n (eb,m))++[.string ⟨#[]⟩,.string m]:=by
 rw[List.replicate_succ'];simp[z9,eb]
theorem zyw:(Tryz.prog.info? 43).map (λi=>(i.zero,i.size,i.bytes))=some (some (.slice none 0 0),1,24):=by kernel_rfl
def zgf (w:World)(v u:Value)(s:Nat):Prop:=∀b,u.ownBlock=some b→v.ownBlock=some b∨(w.heap.size≤b∧b<s)
theorem zhc {S:Nat→Prop}{wr w7:World}{o:Obj}{row:Option Nat}(g:(wr.alloc o).grownBy w7 row)(hS:∀k,row=some k→S k):Kp S wr w7:=
 (Kp.alloc S wr o).trans (Kp.of_grown g hS) (λ_ _ h=>h)
theorem mbs {S:Nat→Prop}{wr w7:World}{b:Nat}{o:Obj}(hk:Kp S wr w7)(h:wr.heap[b]?=some o)(hn:¬S b):w7.heap[b]?=some o:=(hk.block b (zh h) hn).trans h
theorem zrm {w wr w7:World}{v u:Value}{o:Obj}{e n:Nat}{xs:List Value}(hs:w.heap.size≤wr.heap.size)(h:u.ownBlock=v.ownBlock∨u.ownBlock=some (wr.alloc o).heap.size)(hr:w7.ownsRow 0 e 2 u n xs):zgf w v u w7.heap.size:=by
 intro b hb
 rcases h with h|h
 ·exact Or.inl (h ▸ hb)
 ·right
  refine⟨?_,(hr.lt b hb).2⟩
  rw[h]at hb
  injection hb with hb
  simp at hb
  omega
theorem zgf.mono {w:World}{v u:Value}{s s':Nat}(h:zgf w v u s)(hs:s≤s'):zgf w v u s':=λb hb=>(h b hb).imp id (λh=>⟨h.1,Nat.lt_of_lt_of_le h.2 hs⟩)
section
variable {R:Ending→World→Prop}{w:World}
set_option maxRecDepth 20000 in
set_option maxHeartbeats 1000000 in
theorem zpu (p:Nat)(cs:Array Value)(vP vK v:Value)(q n:Nat)(ps:List Value)(ks:List Value)(xs:List (ByteArray × ByteArray))(hq:q<1000000)(hn:n<1000000)
  (hp:w.heap[p]?=some (.cells cs 68 (0,0))) (c5:cs[5]?=some vP) (c6:cs[6]?=some vK)
  (hP:w.ownsRow 0 43 1 vP (4*q) ps) (hK:w.ownsRow 0 3 1 vK (4*q) ks) (hv:w.ownsRow 0 105 2 v n (z9 xs))
  (n1:v.ownBlock≠some p) (n2:vP.ownBlock≠some p) (n3:vK.ownBlock≠some p) (n4:∀b,vP.ownBlock=some b→v.ownBlock≠some b) (n5:∀b,vK.ownBlock=some b→v.ownBlock≠some b) (n6:∀b,vK.ownBlock=some b→vP.ownBlock≠some b)
  (hR:∀w' vP' vK' v1 v2 v3 s5 s6,Kp (λb=>b=p∨vP.ownBlock=some b∨vK.ownBlock=some b∨v.ownBlock=some b) w w'→
   w'.heap[p]?=some (.cells ((cs.setIfInBounds 5 vP').setIfInBounds 6 vK') 68 (0,0))→
   w'.ownsRow 0 43 1 vP' (4*q+4) (ps++[v,v1,v2,v3])→
   w'.ownsRow 0 3 1 vK' (4*q+4) (ks++[.int .i64 (q+1),.int .i64 (q+1),.int .i64 (q+1),.int .i64 (q+1)])→
   w'.ownsRow 0 105 2 v n (z9 (List.replicate n (eb,zsc (q+1))))→w'.ownsRow 0 105 2 v1 (n+1) (z9 (List.replicate (n+1) (eb,zsc (q+1))))→
   w'.ownsRow 0 105 2 v2 (n+2) (z9 (List.replicate (n+2) (eb,zsc (q+1))))→w'.ownsRow 0 105 2 v3 (n+3) (z9 (List.replicate (n+3) (eb,zsc (q+1))))→
   w.heap.size≤s5→s5≤s6→zgf w v v1 s5→zgf w v v2 s5→zgf w v v3 s5→(∀b,vP'.ownBlock=some b→vP.ownBlock=some b∨(s5≤b∧b<s6))→(∀b,vK'.ownBlock=some b→vK.ownBlock=some b∨s6≤b)→R (.returned (.tuple #[])) w') :
  Calls Tryz.prog 154 #[.pointer (some ⟨p,3,none⟩),v] w R:=by
 obtain⟨aP,capP,rfl,hcP⟩:=zr hP
 obtain⟨av,capv,rfl,hcv⟩:=zr hv
 obtain⟨i0,hi,hz0,hz1,hz2⟩:=info_parts zvi
 have HI:=ze (And.intro hi (And.intro hz0 (And.intro hz1 hz2)))
 clear hi hz0 hz1 hz2
 have hxs:xs.length=n:=by have:=hv.1;rw[zai]at this;omega
 have HXS:=ze hxs
 have HR:=ze hR
 clear hR
 have HW:=ze hp
 have C5:=ze c5
 have C6:=ze c6
 have HP:=ze hP
 have HK:=ze hK
 have HV:=ze hv
 have N1:=ze n1
 have N2:=ze n2
 have N3:=ze n3
 have N4:=ze n4
 have N5:=ze n5
 have N6:=ze n6
 have d5:w.cell? ⟨p,5,none⟩=some (.slice aP (4*q) capP):=(zg hp 5).trans c5
 have e5:((4*q:Nat):Int) / 4=q:=by omega
 have hq':(q:Int)<1000000:=by omega
 have hn':(n:Int)<1000000:=by omega
 have kc:=zxo (q+1)
 clear hP hK hv hp c5 c6 n1 n2 n3 n4 n5 n6 hxs
 go_enter Tryz.func154,Tryz.ntmps154
 go_wp2
 clear kc
 go_loopw [6] (λv6 wr=>∃i:Nat,i≤n∧v6 = .int .i64 i∧Kp (λb=>(Value.slice av n capv).ownBlock=some b) w wr∧wr.ownsRow 0 105 2 (.slice av n capv) n (z9 (List.replicate i (eb,zsc (q+1))++xs.drop i))∧
  w.heap.size+2≤wr.heap.size∧wr.heap[w.heap.size+1]?=some (.cells #[.string ⟨#[]⟩,.string (zsc (q+1))] 105 (0,0))) (λv6 _=>n-(intOf v6).toNat)
 case atStart=>
  refine⟨0,Nat.zero_le _,rfl,(Kp.alloc _ _ _).trans (Kp.alloc (λb=>(Value.slice av n capv).ownBlock=some b) _ _) (λ_ _ h=>h),?_,by simp,?_⟩
  ·exact zi (by simpa using HV.out) ((Kp.alloc _ _ _).trans (Kp.alloc (λ_=>False) _ _) (λ_ _ h=>h)) (λ_ _ h=>h)
  ·have:=heap_alloc_new (w.alloc (.cells #[.int .u8 (((q:Int)+1) % 256),.int .u8 (((q:Int)+1) / 256 % 256)] 5)) (.cells #[.string ⟨#[]⟩,.string (zsc (q+1))] 105)
   simpa using this
 case round=>
  obtain⟨i,hile,rfl,hkp,hrow,hsz,hmb⟩:=hrel
  have mb0:=zg hmb 0
  have mb1:=zg hmb 1
  by_cases hin:i<n
  ·have hin':(i:Int)<n:=by omega
   rcases hrow.2 with ⟨_,h0⟩|⟨g,cap,cur,hvx,hbx,hgx,hnx,hmx,hcsx,htx⟩
   ·omega
   ·injection hvx with hav _ hcap
    subst hav
    subst hcap
    have m0:∀o,o<2→(wr.cell? ⟨g,i*2+o,none⟩).isSome=true:=λo ho=>by
     rw[zg hgx,Array.getElem?_eq_getElem (by omega)];rfl
    have mf:∀o,wr.frozen? ⟨g,o,none⟩=false:=zx hgx
    have mf0:=mf (i*2)
    have mf1:=mf (i*2+1)
    clear mf
    obtain⟨x0,e0⟩:=Option.isSome_iff_exists.1 (m0 0 (by omega))
    obtain⟨x1,e1⟩:=Option.isSome_iff_exists.1 (m0 1 (by omega))
    have hgl:g<w.heap.size:=(HV.out.lt g rfl).2
    have HRS:=ze (zc0 hrow i hin g capv rfl eb (zsc (q+1)))
    have HKP:=ze hkp
    have HMB:=ze hmb
    have mb0':wr.cell? ⟨w.heap.size+1,0,none⟩=some (.string ⟨#[]⟩):=mb0
    have mb1':wr.cell? ⟨w.heap.size+1,1,none⟩=some (.string (zsc (q+1))):=mb1
    have HSZ:=ze hsz
    have HGL:=ze hgl
    clear hrow hin hgx htx hcsx hnx hmx hbx m0 hkp hmb mb0 mb1 hsz hgl hcP hcv e5 d5 hile
    rw[Nat.add_zero]at e0
    go_wp2_with fail
    go_roundw
    case rel=>
     refine⟨i+1,by omega,by go_num,?_⟩
     have hk2:Kp (λb=>(Value.slice (some ⟨g,0,none⟩) n capv).ownBlock=some b) w (zov wr g (i*2) eb (zsc (q+1))):=HKP.out.trans (zdo wr g (i*2) eb (zsc (q+1))) (λb _ e=>by rw[e];rfl)
     refine⟨hk2,?_,Nat.le_trans HSZ.out (zdo wr g (i*2) eb (zsc (q+1))).size,((zdo wr g (i*2) eb (zsc (q+1))).block _ (by have:=HSZ.out;omega) (by have:=HGL.out;omega)).trans HMB.out⟩
     have:=HRS.out
     rw[z1k xs i (by have:=HXS.out;omega)]at this
     exact this
    case measure=>simp[intOf];omega
  ·have hie:i=n:=by omega
   subst hie
   have hX:wr.ownsRow 0 105 2 (.slice av i capv) i (z9 (List.replicate i (eb,zsc (q+1)))):=by
    have:=hrow
    rw[List.drop_eq_nil_of_le (by have:=HXS.out;omega),List.append_nil]at this
    exact this
   have HX:=ze hX
   have HKP:=ze hkp
   have HMB:=ze hmb
   have HSZ:=ze hsz
   have HVL:Hid (∀b,(Value.slice av i capv).ownBlock=some b→b<w.heap.size):=λb hb=>(HV.out.lt b hb).2
   obtain⟨iP,hP⟩:=info_parts zyw
   have HIP:=ze hP
   obtain⟨iI,hI⟩:=info_parts zql
   have HII:=ze hI
   clear hP hI
   have mb0':wr.cell? ⟨w.heap.size+1,0,none⟩=some (.string ⟨#[]⟩):=mb0
   have mb1':wr.cell? ⟨w.heap.size+1,1,none⟩=some (.string (zsc (q+1))):=mb1
   generalize hXs:z9 (List.replicate i (eb,zsc (q+1)))=X at *
   clear hrow hkp hmb hsz hX mb0 mb1 hin d5 hile hcP hcv e5
   have HXs:=ze hXs
   clear hXs
   have NMB:Hid (¬(Value.slice av i capv).ownBlock=some (w.heap.size+1)):=λh=>by
    have:=HVL.out _ h
    omega
   go_wp2_with (first
    |(at_builtin;refine zz rfl _ _ 43 rfl 0 105 i0 (.agg #[.string ⟨#[]⟩,.string ⟨#[]⟩]) 2 32 Tryz.underlying43 HI.out.1 HI.out.2.1 HI.out.2.2.1 HI.out.2.2.2 rfl (by decide) _ _ _ rfl (HX.out.alloc _) ⟨wr.heap.size,0,none⟩ 1 1 [.string ⟨#[]⟩,.string (zsc (q+1))] rfl rfl (zqh wr _ _ _) (by simp[Value.oneCell']) (by unfold maxLen;omega) (by omega) (Nat.zero_le _) (by decide) ?_;intro v7 w7 own7 grow7 loc7 keep7;have hk:=zhc (S:=λb=>(Value.slice av i capv).ownBlock=some b) grow7 (λ_ h=>h);have m:=mbs hk HMB.out NMB.out;have HR7:=ze (keep7 _ _ _ (HX.out.alloc _) (List.prefix_append _ _));have z0:w7.cell? ⟨w.heap.size+1,0,none⟩=some (.string ⟨#[]⟩):=zg m 0;have z1:w7.cell? ⟨w.heap.size+1,1,none⟩=some (.string (zsc (q+1))):=zg m 1;have HL7:=ze (zrm (w:=w) (by have:=HSZ.out;omega) loc7 own7);obtain⟨a7,cap7,rfl,_⟩:=zr own7;have HO7:=ze own7;have HK7:=ze hk;have HM7:=ze m;have HS7:Hid (w.heap.size≤w7.heap.size):=Nat.le_trans (by have:=HSZ.out;omega) hk.size;clear hk m own7 grow7 loc7 keep7)
    |(at_builtin;refine zz rfl _ _ 43 rfl 0 105 i0 (.agg #[.string ⟨#[]⟩,.string ⟨#[]⟩]) 2 32 Tryz.underlying43 HI.out.1 HI.out.2.1 HI.out.2.2.1 HI.out.2.2.2 rfl (by decide) _ _ _ rfl (HR7.out.alloc _) ⟨w7.heap.size,0,none⟩ 2 2 [.string ⟨#[]⟩,.string (zsc (q+1)),.string ⟨#[]⟩,.string (zsc (q+1))] rfl rfl (zxe w7 _ _ _ _ _) (by simp[Value.oneCell']) (by unfold maxLen;omega) (by omega) (Nat.zero_le _) (by decide) ?_;intro v8 w8 own8 grow8 loc8 keep8;have hk:=zhc (S:=λb=>(Value.slice av i capv).ownBlock=some b) grow8 (λ_ h=>h);have m:=mbs hk HM7.out NMB.out;have HR8:=ze (keep8 _ _ _ (HR7.out.alloc _) (List.prefix_append _ _));have HR8a:=ze (keep8 _ _ _ (HO7.out.alloc _) (by simp[List.prefix_append_right_inj]));have z0:w8.cell? ⟨w.heap.size+1,0,none⟩=some (.string ⟨#[]⟩):=zg m 0;have z1:w8.cell? ⟨w.heap.size+1,1,none⟩=some (.string (zsc (q+1))):=zg m 1;have HL8:=ze (zrm (w:=w) HS7.out loc8 own8);obtain⟨a8,cap8,rfl,_⟩:=zr own8;have HO8:=ze own8;have HK8:=ze hk;have HM8:=ze m;have HS8:Hid (w.heap.size≤w8.heap.size):=Nat.le_trans HS7.out hk.size;clear hk m own8 grow8 loc8 keep8)
    |(at_builtin;refine zz rfl _ _ 43 rfl 0 105 i0 (.agg #[.string ⟨#[]⟩,.string ⟨#[]⟩]) 2 32 Tryz.underlying43 HI.out.1 HI.out.2.1 HI.out.2.2.1 HI.out.2.2.2 rfl (by decide) _ _ _ rfl (HR8.out.alloc _) ⟨w8.heap.size,0,none⟩ 3 3 [.string ⟨#[]⟩,.string (zsc (q+1)),.string ⟨#[]⟩,.string (zsc (q+1)),.string ⟨#[]⟩,.string (zsc (q+1))] rfl rfl (zb2 w8 _ _ _ _ _ _ _) (by simp[Value.oneCell']) (by unfold maxLen;omega) (by omega) (Nat.zero_le _) (by decide) ?_;intro v9 w9 own9 grow9 loc9 keep9;have hk:=zhc (S:=λb=>(Value.slice av i capv).ownBlock=some b) grow9 (λ_ h=>h);have m:=mbs hk HM8.out NMB.out;have HR9:=ze (keep9 _ _ _ (HR8.out.alloc _) (List.prefix_append _ _));have HR9a:=ze (keep9 _ _ _ (HR8a.out.alloc _) (by simp[List.prefix_append_right_inj]));have HR9b:=ze (keep9 _ _ _ (HO8.out.alloc _) (by simp[List.prefix_append_right_inj]));have z0:w9.cell? ⟨w.heap.size+1,0,none⟩=some (.string ⟨#[]⟩):=zg m 0;have z1:w9.cell? ⟨w.heap.size+1,1,none⟩=some (.string (zsc (q+1))):=zg m 1;have HL9:=ze (zrm (w:=w) HS8.out loc9 own9);obtain⟨a9,cap9,rfl,_⟩:=zr own9;have HO9:=ze own9;have HK9:=ze hk;have HM9:=ze m;have HS9:Hid (w.heap.size≤w9.heap.size):=Nat.le_trans HS8.out hk.size;have hkw:=((HKP.out.trans HK7.out (λ_ _ h=>h)).trans HK8.out (λ_ _ h=>h)).trans hk (λ_ _ h=>h);have hp9:=mbs hkw HW.out N1.out;have y5:w9.cell? ⟨p,5,none⟩=some (.slice aP (4*q) capP):=(zg hp9 5).trans C5.out;have HP9:=ze hp9;have HKW:=ze hkw;clear hp9 hkw;clear hk m own9 grow9 loc9 keep9)
    |(at_builtin;refine zz rfl _ _ 39 rfl 0 43 iP (.slice none 0 0) 1 24 Tryz.underlying39 HIP.out.1 HIP.out.2.1 HIP.out.2.2.1 HIP.out.2.2.2 rfl (by decide) _ _ _ rfl ((zi HP.out HKW.out N4.out).alloc _) ⟨w9.heap.size,0,none⟩ 4 4 [.slice av i capv,.slice a7 (i+1) cap7,.slice a8 (i+2) cap8,.slice a9 (i+3) cap9] rfl rfl (zxe w9 _ _ _ _ _) (by simp[Value.oneCell']) (by unfold maxLen;omega) (by omega) (Nat.zero_le _) (by decide) ?_;intro v10 w10 own10 grow10 loc10 keep10;have hk:=zhc (S:=λb=>(Value.slice aP (4*q) capP).ownBlock=some b) grow10 (λ_ h=>h);have hp10:=mbs hk HP9.out N2.out;have y5:w10.cell? ⟨p,5,none⟩=some (.slice aP (4*q) capP):=(zg hp10 5).trans C5.out;have yf5:=zx hp10 5;have y6:w10.cell? ⟨p,6,none⟩=some vK:=(zg hp10 6).trans C6.out;obtain⟨a10,cap10,rfl,_⟩:=zr own10;have HP10:=ze hp10;have HK10:=ze hk;have HO10:=ze own10;have HL10:=ze loc10;clear hp10 hk own10 grow10 loc10 keep10)
    |(at_builtin;refine zz rfl _ _ 26 rfl 0 3 iI (.int .i64 0) 1 8 Tryz.underlying26 HII.out.1 HII.out.2.1 HII.out.2.2.1 HII.out.2.2.2 rfl (by decide) _ _ _ rfl ((zi (zi (zi HK.out HKW.out N5.out) HK10.out N6.out) (Kp.setCell (S:=λb=>b=p) w10 ⟨p,5,none⟩ (.slice a10 (4*q+4) cap10) rfl) (λb hb e=>N3.out (by rw[← e];exact hb))).alloc _) ⟨w10.heap.size,0,none⟩ 4 4 [.int .i64 (q+1),.int .i64 (q+1),.int .i64 (q+1),.int .i64 (q+1)] rfl rfl (zpw w10 p _ _ _ _ _ _) (by simp[Value.oneCell']) (by unfold maxLen;omega) (by omega) (Nat.zero_le _) (by decide) ?_;intro v11 w11 own11 grow11 loc11 keep11;have hk:=zhc (S:=λb=>vK.ownBlock=some b) grow11 (λ_ h=>h);have hp11:=mbs hk (zq HP10.out _) N3.out;have y6:w11.cell? ⟨p,6,none⟩=some vK:=(zg hp11 6).trans (by simpa using C6.out);have yf6:=zx hp11 6;obtain⟨a11,cap11,rfl,_⟩:=zr own11;have HP11:=ze hp11;have HK11:=ze hk;have HO11:=ze own11;have HL11:=ze loc11;clear hp11 hk own11 grow11 loc11 keep11)
    |fail)
   have lp:p<w.heap.size:=zh HW.out
   have lP:∀b,(Value.slice aP (4*q) capP).ownBlock=some b→b<w.heap.size:=λb hb=>(HP.out.lt b hb).2
   have lK:∀b,vK.ownBlock=some b→b<w.heap.size:=λb hb=>(HK.out.lt b hb).2
   have s9:=HS9.out
   have s10:=HK10.out.size
   have s11:w10.heap.size≤w11.heap.size:=by have:=HK11.out.size;simpa [World.setCell] using this
   have t11:Kp (λb=>b=p∨vK.ownBlock=some b) w10 (w11.setCell ⟨p,6,none⟩ (.slice a11 (4*q+4) cap11)):=
    ((Kp.setCell (S:=λb=>b=p∨vK.ownBlock=some b) w10 ⟨p,5,none⟩ (.slice a10 (4*q+4) cap10) (Or.inl rfl)).trans (HK11.out.mono (S':=λb=>b=p∨vK.ownBlock=some b) (λ_ _ h=>Or.inr h)) (λ_ _ h=>h)).trans (Kp.setCell (S:=λb=>b=p∨vK.ownBlock=some b) w11 _ _ (Or.inl rfl)) (λ_ _ h=>h)
   have t10:Kp (λb=>b=p∨(Value.slice aP (4*q) capP).ownBlock=some b∨vK.ownBlock=some b) w9 (w11.setCell ⟨p,6,none⟩ (.slice a11 (4*q+4) cap11)):=
    (HK10.out.mono (S':=λb=>b=p∨(Value.slice aP (4*q) capP).ownBlock=some b∨vK.ownBlock=some b) (λ_ _ h=>Or.inr (Or.inl h))).trans t11 (λ_ _ h=>h.imp id Or.inr)
   have t9:Kp (λb=>b=p∨(Value.slice aP (4*q) capP).ownBlock=some b∨vK.ownBlock=some b∨(Value.slice av i capv).ownBlock=some b) w (w11.setCell ⟨p,6,none⟩ (.slice a11 (4*q+4) cap11)):=
    (HKW.out.mono (S':=λb=>b=p∨(Value.slice aP (4*q) capP).ownBlock=some b∨vK.ownBlock=some b∨(Value.slice av i capv).ownBlock=some b) (λ_ _ h=>Or.inr (Or.inr (Or.inr h)))).trans t10 (λ_ _ h=>h.imp id (λh=>h.imp id Or.inl))
   have nv:∀b,(Value.slice av i capv).ownBlock=some b→¬(b=p∨(Value.slice aP (4*q) capP).ownBlock=some b∨vK.ownBlock=some b):=λb hb h=>by
    rcases h with h|h|h
    ·exact N1.out (by rw[← h];exact hb)
    ·exact N4.out b h hb
    ·exact N5.out b h hb
   have nu:∀u s,zgf w (Value.slice av i capv) u s→∀b,u.ownBlock=some b→¬(b=p∨(Value.slice aP (4*q) capP).ownBlock=some b∨vK.ownBlock=some b):=λu s hu b hb=>by
    rcases hu b hb with h|h
    ·exact nv b h
    ·intro h2
     rcases h2 with h2|h2|h2
     ·omega
     ·have:=lP b h2;omega
     ·have:=lK b h2;omega
   have x1:X++[.string ⟨#[]⟩,.string (zsc (q+1))]=z9 (List.replicate (i+1) (eb,zsc (q+1))):=by rw[z9j,HXs.out]
   have x2:X++[.string ⟨#[]⟩,.string (zsc (q+1)),.string ⟨#[]⟩,.string (zsc (q+1))]=z9 (List.replicate (i+2) (eb,zsc (q+1))):=by rw[z9j,← x1];simp
   have x3:X++[.string ⟨#[]⟩,.string (zsc (q+1)),.string ⟨#[]⟩,.string (zsc (q+1)),.string ⟨#[]⟩,.string (zsc (q+1))]=z9 (List.replicate (i+3) (eb,zsc (q+1))):=by rw[z9j,← x2];simp
   have f0:=zi HR9.out t10 nv
   have f1:=zi HR9a.out t10 (nu _ _ HL7.out)
   have f2:=zi HR9b.out t10 (nu _ _ HL8.out)
   have f3:=zi HO9.out t10 (nu _ _ HL9.out)
   rw[x1]at f1
   rw[x2]at f2
   rw[x3]at f3
   have l10:∀b,(Value.slice a10 (4*q+4) cap10).ownBlock=some b→(Value.slice aP (4*q) capP).ownBlock=some b∨(w9.heap.size≤b∧b<w10.heap.size):=λb hb=>by
    have hlt:=(HO10.out.lt b hb).2
    rcases HL10.out with h|h
    ·exact Or.inl (h ▸ hb)
    ·rw[h]at hb
     injection hb with hb
     simp at hb
     exact Or.inr ⟨by omega,hlt⟩
   have l11:∀b,(Value.slice a11 (4*q+4) cap11).ownBlock=some b→vK.ownBlock=some b∨w10.heap.size≤b:=λb hb=>by
    rcases HL11.out with h|h
    ·exact Or.inl (h ▸ hb)
    ·rw[h]at hb
     injection hb with hb
     simp[World.setCell]at hb
     exact Or.inr (by omega)
   have g10:=zi HO10.out t11 (λb hb h=>by
    rcases l10 b hb with h1|h1
    ·rcases h with h|h
     ·exact N2.out (by rw[← h];exact h1)
     ·exact N6.out b h h1
    ·rcases h with h|h
     ·omega
     ·have:=lK b h;omega)
   have g11:=zi HO11.out (Kp.setCell (S:=λb=>b=p) w11 ⟨p,6,none⟩ (.slice a11 (4*q+4) cap11) rfl) (λb hb h=>by
    rcases l11 b hb with h1|h1
    ·exact N3.out (by rw[← h];exact h1)
    ·omega)
   have HF:=ze (HR.out _ _ _ _ _ _ w9.heap.size w10.heap.size t9 (zq HP11.out _) g10 g11 f0 f1 f2 f3 s9 s10 (HL7.out.mono (Nat.le_trans HK8.out.size HK9.out.size)) (HL8.out.mono HK9.out.size) HL9.out l10 l11)
   clear f0 f1 f2 f3 g10 g11 l10 l11 t9 t10 t11 nu nv x1 x2 x3 lp lP lK s9 s10 s11
   go_end0
   exact HF.out
end
end
end Go.Proofs.YthbdpfccfcceiaaGreatDoor
