/-
  Of the proof of logsUpto_card.
-/
import Derived.Test.YthbdpfccfcceiaaGreatDoorJ4x
namespace Go.Proofs.YthbdpfccfcceiaaGreatDoor
section
open Go.RowKit
theorem zii:∀{a b:List ByteArray},a.Pairwise blt→b.Pairwise blt→(∀k,k∈a↔k∈b)→a=b
 |[],[],_,_,_=>rfl
 |[],y::b,_,_,h=>by have:=(h y).2 (by simp);cases this
 |x::a,[],_,_,h=>by have:=(h x).1 (by simp);cases this
 |x::a,y::b,ha,hb,h=>by
  obtain⟨a1,a2⟩:=List.pairwise_cons.1 ha
  obtain⟨b1,b2⟩:=List.pairwise_cons.1 hb
  have e:x=y:=by
   rcases List.mem_cons.1 ((h x).1 (by simp)) with e|hx
   ·exact e
   ·rcases List.mem_cons.1 ((h y).2 (by simp)) with e|hy
    ·exact e.symm
    ·exact absurd (zxg (a1 y hy) (b1 x hx)) (zic _)
  subst e
  rw[zii a2 b2 (λk=>?_)]
  constructor
  ·intro hk
   rcases List.mem_cons.1 ((h k).1 (List.mem_cons_of_mem _ hk)) with e|h1
   ·exact absurd (e ▸ a1 k hk) (zic _)
   ·exact h1
  ·intro hk
   rcases List.mem_cons.1 ((h k).2 (List.mem_cons_of_mem _ hk)) with e|h1
   ·exact absurd (e ▸ b1 k hk) (zic _)
   ·exact h1
theorem zgr:∀{a:List ByteArray} {b:List ByteArray},a.Pairwise (·≠·)→(∀k∈a,k∈b)→a.length≤b.length
 |[],_,_,_=>Nat.zero_le _
 |x::a,b,ha,h=>by
  obtain⟨a1,a2⟩:=List.pairwise_cons.1 ha
  have hx:x∈b:=h x (by simp)
  have h1:=zgr (a:=a) (b:=b.filter (λk=>decide (k≠x))) a2 (λk hk=>List.mem_filter.2 ⟨h k (List.mem_cons_of_mem _ hk),by simpa using (a1 k hk).symm⟩)
  have h2:(b.filter (λk=>decide (k≠x))).length<b.length:=List.length_filter_lt_length_iff_exists.2 ⟨x,hx,by simp⟩
  simp only[List.length_cons]
  omega
section
variable {s:XS}{y:YS}
theorem z9d {n:Int}:zab y n=true↔∃j:Nat,n=(j:Int)+1∧∃hj:j<y.txs.length,(y.txs[j]).over=false:=by
 constructor
 ·exact z3m
 ·rintro⟨j,rfl,hj,ho⟩
  unfold zab
  simp[List.getElem?_eq_getElem hj,ho];omega
theorem z1j {j:Nat}(hj:j<y.txs.length)(ho:(y.txs[j]).over=false):zvg y ((j:Int)+1)=some (zec y.txs[j]):=by
 have h:zab y ((j:Int)+1)=true:=z9d.2 ⟨j,rfl,hj,ho⟩
 simp[zvg,h,List.getElem?_eq_getElem hj]
theorem zof {n:Int}(h:zab y n=false):zvg y n=none:=by simp[zvg,h]
theorem zgl {n:Int}{t:XT}(h:zvg y n=some t):∃j:Nat,n=(j:Int)+1∧∃hj:j<y.txs.length,(y.txs[j]).over=false∧t=zec y.txs[j]:=by
 by_cases ht:zab y n=true
 ·obtain⟨j,rfl,hj,ho⟩:=z9d.1 ht
  rw[z1j hj ho]at h
  exact⟨j,rfl,hj,ho,(Option.some.inj h).symm⟩
 ·rw[zof (by simpa using ht)]at h;cases h
theorem z3r {y':YS}{j:Nat}{t':YT}(hj:j<y.txs.length)(e:y'.txs=y.txs.set j t')(n:Int):zvg y' n=zwb (zvg y) ((j:Int)+1) (if t'.over then none else some (zec t')) n:=by
 have hj':j<y'.txs.length:=by rw[e];simpa using hj
 by_cases hn:n=(j:Int)+1
 ·subst hn
  rw[z6g]
  have e1:y'.txs[j]=t':=by simp[e]
  cases ho:t'.over with
  |true=>
   have:zab y' ((j:Int)+1)=false:=by
    rw[Bool.eq_false_iff];intro h
    obtain⟨j',e2,hj2,ho2⟩:=z9d.1 h
    have:j'=j:=by omega
    subst this
    rw[e1,ho]at ho2;cases ho2
   simp[zof this]
  |false=>
   rw[z1j hj' (by rw[e1,ho]),e1];simp
 ·rw[zji _ hn]
  have hg:∀i:Nat,i≠j→y'.txs[i]?=y.txs[i]?:=λi hi=>by rw[e,List.getElem?_set_ne (Ne.symm hi)]
  by_cases h1:1≤n
  ·have hi:(n-1).toNat≠j:=by omega
   have e1:zab y' n=zab y n:=by unfold zab;rw[hg _ hi]
   unfold zvg
   rw[e1,hg _ hi]
  ·have h2:decide (1≤n)=false:=by simpa using h1
   have f:∀z:YS,zab z n=false:=λz=>by
    unfold zab;split
    ·simp[h2]
    ·rfl
   rw[zof (f y'),zof (f y)]
theorem z3h:∀{l:List YT} {j:Nat} (hj:j<l.length) (t:YT),(l[j]).over=false→ztc (l.set j t)=if t.over then ztc l-1 else ztc l
 |a::r,0,_,t,h=>by
  have h':a.over=false:=by simpa using h
  cases ht:t.over<;>simp[ztc,h',ht]
 |a::r,j+1,hj,t,h=>by
  have ih:=z3h (l:=r) (j:=j) (by simpa using hj) t (by simpa using h)
  have hp:1≤ztc r:=by
   unfold ztc
   exact List.length_pos_of_mem (List.mem_filter.2 ⟨List.getElem_mem (by simpa using hj:j<r.length),by simpa using h⟩)
  simp only[ztc,List.set_cons_succ]at ih hp ⊢
  cases ha:a.over<;>cases ht:t.over<;>simp[ha,ht]at ih ⊢<;>omega
theorem ztb.closed (h:ztb s y){j:Nat}(hj:j<y.txs.length)(ho:(y.txs[j]).over=false):ztb { s with txs:=zwb s.txs ((j:Int)+1) none,nopen:=s.nopen-1 } (zqc y j hj):=by
 refine⟨h.now,?_,λn=>?_,?_,h.mom,h.ver,h.nv,h.nm,h.hor,h.lgl,h.lgb,h.sy,h.nob,h.lg,h.syn,h.lgn⟩
 ·simp[zqc];exact h.begun
 ·rw[z3r (y:=y) (t':={ y.txs[j] with over:=true }) hj rfl]
  have:s.txs=zvg y:=funext h.txs
  simp[this]
 ·show s.nopen-1=ztc (y.txs.set j _)
  rw[z3h hj _ ho,h.nopen];simp
theorem YI.closed (h:YI y){j:Nat}(hj:j<y.txs.length)(ho:(y.txs[j]).over=false):YI (zqc y j hj):=by
 refine⟨h.now,h.len,h.ver,h.up,λt ht=>?_,?_,h.hor,λt ht ho'=>?_,h.bku,h.lgv⟩
 ·rcases List.mem_or_eq_of_mem_set ht with h1|rfl
  ·exact h.txs t h1
  ·have:=h.txs _ (List.getElem_mem hj)
   exact⟨this.sees,this.len,this.one,this.ok⟩
 ·have h1:=h.opn
  show ztc (y.txs.set j _)≤8
  rw[z3h hj _ ho]
  simp;omega
 ·rcases List.mem_or_eq_of_mem_set ht with h1|rfl
  ·exact h.pin t h1 ho'
  ·cases ho'
theorem ztb.opened (h:ztb s y):ztb { s with begun:=s.begun+1,txs:=zwb s.txs (s.begun+1) (some ⟨s.now,λ_=>none,0⟩),nopen:=s.nopen+1 } { y with txs:=y.txs++[zhd y] }:=by
 have hs:s.txs=zvg y:=funext h.txs
 refine⟨h.now,?_,λn=>?_,?_,h.mom,h.ver,h.nv,h.nm,h.hor,h.lgl,h.lgb,h.sy,h.nob,h.lg,h.syn,h.lgn⟩
 ·simp[h.begun]
 ·show zwb s.txs (s.begun+1) _ n=_
  rw[hs,h.begun]
  by_cases hn:n=(y.txs.length:Int)+1
  ·subst hn
   rw[z6g,z1j (y:={ y with txs:=y.txs++[zhd y] }) (j:=y.txs.length) (by simp) (by simp[zhd])]
   simp[zec,zhd,h.now]
   funext k;rfl
  ·rw[zji _ hn]
   by_cases h1:1≤n∧n≤y.txs.length
   ·have:(y.txs++[zhd y])[(n-1).toNat]?=y.txs[(n-1).toNat]?:=List.getElem?_append_left (by omega)
    have e1:zab { y with txs:=y.txs++[zhd y] } n=zab y n:=by
     unfold zab
     dsimp only
     rw[this]
    unfold zvg
    rw[e1]
    show _=if zab y n=true then ((y.txs++[zhd y])[(n-1).toNat]?).map zec else none
    rw[this]
   ·have f:∀z:YS,z.txs.length≤y.txs.length+1→(n-1).toNat<y.txs.length+1→zab z n=true→1≤n:=λz _ _ ht=>by
     obtain⟨j,rfl,_⟩:=z9d.1 ht;omega
    have g1:zab y n=false:=by
     rw[Bool.eq_false_iff];intro ht
     obtain⟨j,rfl,hj,_⟩:=z9d.1 ht
     exact h1 ⟨by omega,by omega⟩
    have g2:zab { y with txs:=y.txs++[zhd y] } n=false:=by
     rw[Bool.eq_false_iff];intro ht
     obtain⟨j,rfl,hj,_⟩:=z9d.1 ht
     have:j<y.txs.length+1:=by simpa using hj
     exact h1 ⟨by omega,by omega⟩
    rw[zof g1,zof g2]
 ·show s.nopen+1=ztc (y.txs++[zhd y])
  rw[zik,h.nopen];simp[zhd]
theorem YI.opened (h:YI y)(h8:ztc y.txs≠8):YI { y with txs:=y.txs++[zhd y] }:=by
 have ho:=h.opn
 refine⟨h.now,h.len,h.ver,h.up,λt ht=>?_,by show ztc (y.txs++[zhd y])≤8;rw[zik];simp[zhd];omega,h.hor,λt ht ho'=>by
  rcases List.mem_append.1 ht with h1|h1
  ·exact h.pin t h1 ho'
  ·have e:t=zhd y:=by simpa using h1
   subst e
   exact h.hor.2,h.bku,h.lgv⟩
 rcases List.mem_append.1 ht with h1|h1
 ·exact h.txs t h1
 ·have:t=zhd y:=by simpa using h1
  subst this
  exact⟨⟨h.now.1,Int.le_refl _⟩,by simp[zhd],by simp[zhd],by simp[zhd]⟩
theorem ztb.newTx_none (h:ztb s y):s.txs (s.begun+1)=none:=by
 rw[h.txs,zof]
 rw[Bool.eq_false_iff];intro ht
 obtain⟨j,e,hj,_⟩:=z9d.1 ht
 have:=h.begun
 omega
theorem z3u {l l':List YV}(h:l.map (·.key)=l'.map (·.key))(k:ByteArray):zyb l k=zyb l' k:=by
 have e:∀l:List YV,zyb l k=(l.map (·.key)).findIdx? (λa=>a.toList == k.toList):=λl=>by
  rw[List.findIdx?_map];rfl
 rw[e l,e l',h]
theorem z8q {l:List YV}{k:ByteArray}{i:Nat}(h:zyb l k=some i)(gone:Bool)(val:ByteArray):(l.set i ⟨k,0,gone,val⟩).map (·.key)=l.map (·.key):=by
 obtain⟨hi,e⟩:=z7f h
 rw[List.map_set]
 apply List.ext_getElem?
 intro j
 rw[List.getElem?_set]
 split
 ·rename_i hj
  subst hj
  simp[hi,e]
 ·rfl
theorem zu0 {l:List YV}{k:ByteArray}{i:Nat}(h:zyb l k=some i)(gone:Bool)(val:ByteArray):zle (l.set i ⟨k,0,gone,val⟩)=zhb (zle l) k (some (val,gone)):=by
 obtain⟨hi,e⟩:=z7f h
 funext k'
 have hc:=z3u (z8q h gone val) k'
 by_cases hk:k'=k
 ·subst hk
  rw[zxc,zvd (hc.trans h) (by simpa using hi)]
  simp
 ·rw[z1b _ hk]
  cases hx:zyb l k' with
  |none=>rw[zae hx,zae (hc.trans hx)]
  |some a=>
   obtain⟨ha,ea⟩:=z7f hx
   have hne:i≠a:=λe2=>by subst e2;exact hk (ea.symm.trans e)
   rw[zvd hx ha,zvd (hc.trans hx) (by simpa using ha)]
   simp[List.getElem_set_ne hne]
theorem zcy {l:List YV}{k:ByteArray}(h:zyb l k=none)(gone:Bool)(val:ByteArray):zle (l++[⟨k,0,gone,val⟩])=zhb (zle l) k (some (val,gone)):=by
 funext k'
 have hl:l.length<(l++[(⟨k,0,gone,val⟩:YV)]).length:=by simp
 by_cases hk:k'=k
 ·subst hk
  have:zyb (l++[⟨k',0,gone,val⟩]) k'=some l.length:=by
   unfold zyb at h ⊢
   rw[List.findIdx?_append,h]
   simp
  rw[zxc,zvd this hl]
  simp
 ·rw[z1b _ hk]
  cases hx:zyb l k' with
  |none=>
   rw[zae hx,zae]
   rw[z6o]at hx ⊢
   intro y hy
   rcases List.mem_append.1 hy with h1|h1
   ·exact hx y h1
   ·have:y=⟨k,0,gone,val⟩:=by simpa using h1
    subst this
    exact λe=>hk e.symm
  |some a=>
   obtain⟨ha,ea⟩:=z7f hx
   have:zyb (l++[⟨k,0,gone,val⟩]) k'=some a:=by
    unfold zyb at hx ⊢
    rw[List.findIdx?_append,hx];rfl
   rw[zvd hx ha,zvd this (by simp;omega)]
   simp[List.getElem_append_left ha]
theorem zot {t:YT}{k:ByteArray}{i:Nat}(h:zyb t.l k=some i)(gone:Bool)(val:ByteArray):zyd (zec t) k (val,gone)=some (zec { t with l:=t.l.set i ⟨k,0,gone,val⟩ }):=by
 have h1:((zec t).wr k).isSome=true:=by simp[zec,zyh,h]
 rw[zyd,if_pos h1]
 simp[zec,zu0 h]
theorem zey {t:YT}{k:ByteArray}(h:zyb t.l k=none)(h10:t.l.length<10)(gone:Bool)(val:ByteArray):zyd (zec t) k (val,gone)=some (zec { t with l:=t.l++[⟨k,0,gone,val⟩] }):=by
 have h1:¬((zec t).wr k).isSome=true:=by simp[zec,zae h]
 rw[zyd,if_neg h1,if_pos (by simpa [zec] using h10)]
 simp[zec,zcy h]
theorem z4v {t:YT}{k:ByteArray}(h:zyb t.l k=none)(h10:t.l.length=10)(gone:Bool)(val:ByteArray):zyd (zec t) k (val,gone)=none:=by
 have h1:¬((zec t).wr k).isSome=true:=by simp[zec,zae h]
 rw[zyd,if_neg h1,if_neg (by simp[zec,h10])]
theorem ztb.written (h:ztb s y){j:Nat}(hj:j<y.txs.length)(ho:(y.txs[j]).over=false)(l':List YV):ztb { s with txs:=zwb s.txs ((j:Int)+1) (some (zec { y.txs[j] with l:=l' })) } (z0c y j { y.txs[j] with l:=l' }):=by
 refine⟨h.now,?_,λn=>?_,?_,h.mom,h.ver,h.nv,h.nm,h.hor,h.lgl,h.lgb,h.sy,h.nob,h.lg,h.syn,h.lgn⟩
 ·simp[z0c];exact h.begun
 ·rw[z3r (y:=y) (t':={ y.txs[j] with l:=l' }) hj rfl]
  have:s.txs=zvg y:=funext h.txs
  simp[this,ho]
 ·show s.nopen=ztc (y.txs.set j _)
  rw[z3h hj _ ho,h.nopen];simp[ho]
theorem YI.written (h:YI y){j:Nat}(hj:j<y.txs.length)(ho:(y.txs[j]).over=false)(t':YT)(ht:TI y.now t')(ho':t'.over=false)(hp:y.hor≤t'.sees):YI (z0c y j t'):=by
 refine⟨h.now,h.len,h.ver,h.up,λt h1=>?_,by show ztc (y.txs.set j t')≤8;rw[z3h hj _ ho,ho'];exact h.opn,h.hor,λt h1 ho1=>by
  rcases List.mem_or_eq_of_mem_set h1 with h1|rfl
  ·exact h.pin t h1 ho1
  ·exact hp,h.bku,h.lgv⟩
 rcases List.mem_or_eq_of_mem_set h1 with h1|rfl
 ·exact h.txs t h1
 ·exact ht
theorem TI.again {n:Int}{t:YT}(h:TI n t){k:ByteArray}{i:Nat}(hi:zyb t.l k=some i)(hk:zu k=true)(gone:Bool){val:ByteArray}(hv:val.size≤20):TI n { t with l:=t.l.set i ⟨k,0,gone,val⟩ }:=by
 refine⟨h.sees,by simpa using h.len,?_,λv hv'=>?_⟩
 ·have:=h.one
  rw[← List.pairwise_map (f:=λv:YV=>v.key) (R:=λa b=>a≠b)]at this ⊢
  rw[z8q hi];exact this
 ·rcases List.mem_or_eq_of_mem_set hv' with h1|rfl
  ·exact h.ok v h1
  ·exact⟨hk,hv⟩
theorem TI.more {n:Int}{t:YT}(h:TI n t){k:ByteArray}(hi:zyb t.l k=none)(h10:t.l.length<10)(hk:zu k=true)(gone:Bool){val:ByteArray}(hv:val.size≤20):TI n { t with l:=t.l++[⟨k,0,gone,val⟩] }:=by
 refine⟨h.sees,by simp;omega,?_,λv hv'=>?_⟩
 ·rw[List.pairwise_append]
  refine⟨h.one,by simp,λa ha b hb=>?_⟩
  have:b=⟨k,0,gone,val⟩:=by simpa using hb
  subst this
  exact z6o.1 hi a ha
 ·rcases List.mem_append.1 hv' with h1|h1
  ·exact h.ok v h1
  ·have:v=⟨k,0,gone,val⟩:=by simpa using h1
   subst this
   exact⟨hk,hv⟩
theorem zgi {k:ByteArray}(h:zu k=true):k.size≤8:=by
 unfold zu at h
 simp at h
 exact h.2.1
theorem zhz {k:ByteArray}(h:zu k=true):inR eb zbq k=true:=by
 unfold zu at h
 simp only[Bool.and_eq_true,decide_eq_true_eq]at h
 obtain⟨h1,_,h3⟩:=h
 unfold inR
 rw[z9q,Bool.and_eq_true]
 refine⟨?_,?_⟩
 ·rw[Bool.not_eq_true',Bool.eq_false_iff]
  intro h4
  have:=(z4g _ _).1 h4
  exact List.not_lt_nil _ this
 ·rw[z4g]
  unfold blt
  cases hd:k.data.toList with
  |nil=>
   have:k.data.toList.length=0:=by rw[hd];rfl
   have h5:k.data.toList.length=k.size:=by simp
   omega
  |cons a r=>
   rw[hd]at h3
   have ha:kb a=true:=by
    have:=List.all_eq_true.1 h3 a (by simp)
    exact this
   unfold kb at ha
   have ha':=of_decide_eq_true ha
   show a::r<[126]
   rw[List.cons_lt_cons_iff]
   left
   rw[UInt8.lt_iff_toNat_lt]
   show a.toNat<126
   omega
theorem zlr (h:ztb s y)(hy:YI y)(t:YT):zjk s (zec t)↔zkl y t:=by
 constructor
 ·rintro⟨k,hk,hc⟩
  rw[h.mom]at hc
  unfold zzg at hc
  cases hg:(zy y.l k).getLast? with
  |none=>rw[hg]at hc;cases hc
  |some m=>
   rw[hg]at hc
   have hc:t.sees<m:=of_decide_eq_true hc
   obtain⟨v,hv,e1,e2⟩:=zkc.1 (List.mem_of_getLast? hg)
   obtain⟨i,hi,rfl⟩:=List.getElem_of_mem hv
   refine⟨i,hi,?_,by omega⟩
   rw[e1,← zyh]
   exact hk
 ·rintro⟨i,hi,hk,ht⟩
  refine⟨(y.l[i]).key,by simpa [zec,zyh] using hk,?_⟩
  rw[h.mom]
  obtain⟨z,e,_,hz⟩:=zmh (zni hy.up (y.l[i]).key) (x:=(y.l[i]).t) (zkc.2 ⟨_,List.getElem_mem hi,rfl,rfl⟩)
  unfold zzg
  rw[e]
  exact decide_eq_true (show t.sees<z by omega)
open Classical in
theorem zbp {tl:List YV}{n:Int}:∀{ks:List ByteArray},ks.Pairwise blt→(∀k∈ks,∃v∈tl,v.key=k)→∀k,zy (ks.filterMap (zzb tl n)) k=if k∈ks then [n] else []
 |[],_,_,k=>by simp[zy]
 |a::r,hs,hm,k=>by
  obtain⟨h1,h2⟩:=List.pairwise_cons.1 hs
  have ih:=zbp (tl:=tl) (n:=n) h2 (λk hk=>hm k (List.mem_cons_of_mem _ hk)) k
  obtain⟨i,hi,hl,he⟩:=zye (hm a (by simp))
  have hp:zzb tl n a=some { tl[i] with t:=n }:=by simp[zzb,hi,List.getElem?_eq_getElem hl]
  rw[List.filterMap_cons_some hp]
  unfold zy at ih ⊢
  by_cases hk:k=a
  ·subst hk
   have hnr:k ∉ r:=λhr=>zic _ (h1 k hr)
   rw[if_neg hnr]at ih
   rw[List.filter_cons_of_pos (by simp[he]),List.map_cons,ih]
   simp
  ·have hne:¬a=k:=λe=>hk e.symm
   rw[List.filter_cons_of_neg (by simp[he,hne]),ih]
   simp[hk]
open Classical in
theorem z8r {tl:List YV}{n:Int}:∀{ks:List ByteArray},ks.Pairwise blt→(∀k∈ks,∃v∈tl,v.key=k)→∀k m,z2b (ks.filterMap (zzb tl n)) k m=if k∈ks∧m=n then zle tl k else none
 |[],_,_,k,m=>by simp[z2b]
 |a::r,hs,hm,k,m=>by
  obtain⟨h1,h2⟩:=List.pairwise_cons.1 hs
  have ih:=z8r (tl:=tl) (n:=n) h2 (λk hk=>hm k (List.mem_cons_of_mem _ hk)) k m
  obtain⟨i,hi,hl,he⟩:=zye (hm a (by simp))
  have hp:zzb tl n a=some { tl[i] with t:=n }:=by simp[zzb,hi,List.getElem?_eq_getElem hl]
  rw[List.filterMap_cons_some hp]
  unfold z2b at ih ⊢
  by_cases hk:k=a
  ·subst hk
   have hnr:k ∉ r:=λhr=>zic _ (h1 k hr)
   by_cases hn:m=n
   ·subst hn
    rw[List.find?_cons_of_pos (by simp[he]),zvd hi hl]
    simp
   ·have hn':¬n=m:=λe=>hn e.symm
    rw[List.find?_cons_of_neg (by simp[hn']),ih]
    simp[hnr,hn]
  ·have hne:¬a=k:=λe=>hk e.symm
   rw[List.find?_cons_of_neg (by simp[he,hne]),ih]
   simp[hk]
theorem z7l (l m:List YV)(k:ByteArray):zy (l++m) k=zy l k++zy m k:=by simp[zy]
theorem z3n (l m:List YV)(k:ByteArray)(n:Int):z2b (l++m) k n=(z2b l k n).or (z2b m k n):=by
 unfold z2b
 rw[List.find?_append]
 cases l.find? (λy=>decide (y.key=k∧y.t=n))<;>rfl
theorem zpr {tl:List YV}{n:Int}:∀{ws:List (ByteArray × ByteArray × Bool)},(∀x∈ws,zle tl x.1=some x.2)→((ws.map Prod.fst).filterMap (zzb tl n)).map toW=ws
 |[],_=>rfl
 |x::r,h=>by
  have hx:=h x (by simp)
  have ih:=zpr (n:=n) (λy hy=>h y (List.mem_cons_of_mem _ hy))
  cases hi:zyb tl x.1 with
  |none=>rw[zae hi]at hx;cases hx
  |some i=>
   obtain⟨hl,ek⟩:=z7f hi
   rw[zvd hi hl]at hx
   have hp:zzb tl n x.1=some { tl[i] with t:=n }:=by simp[zzb,hi,List.getElem?_eq_getElem hl]
   rw[List.map_cons,List.filterMap_cons_some hp,List.map_cons,ih]
   congr 1
   exact Prod.ext ek (Option.some.inj hx)
theorem zyz {tl:List YV}{n:Int}{ws:List (ByteArray × ByteArray × Bool)}(h:z6j (zle tl) ws){ks:List ByteArray}(hs:ks.Pairwise blt)(hm:∀k,k∈ks↔∃v∈tl,v.key=k):(ks.filterMap (zzb tl n)).map toW=ws:=by
 have e:ks=ws.map Prod.fst:=zii hs h.up (λk=>by
  rw[hm,← zsh]
  refine⟨h.all k,λhk=>?_⟩
  obtain⟨x,hx,rfl⟩:=List.mem_map.1 hk
  rw[h.at_ x hx];rfl)
 rw[e]
 exact zpr h.at_
theorem ztb.committed (h:ztb s y)(hy:YI y){j:Nat}(hj:j<y.txs.length)(ho:(y.txs[j]).over=false){ks:List ByteArray}(hs:ks.Pairwise blt)(hm:∀k,k∈ks↔∃v∈(y.txs[j]).l,v.key=k)
  {nv' nm':Nat} (hnv:nv'≤s.nv+(zec y.txs[j]).nw) (hnm:nm'≤s.nm+(zec y.txs[j]).nw) {l':XL} (hl:ze4 s (zec y.txs[j]).wr l') :
  ztb { zqd { s with log:=l' } (zec y.txs[j]) (λ_=>false) nv' nm' with txs:=zwb s.txs ((j:Int)+1) none,nopen:=s.nopen-1 } (zhn y j hj ks):=by
 have hc:=h.closed hj ho
 have hlen:=(hy.txs _ (List.getElem_mem hj)).len
 have h1:=h.nv
 have h2:=h.nm
 have hw:∀k,(zle (y.txs[j]).l k).isSome=true↔k∈ks:=λk=>zsh.trans (hm k).symm
 refine⟨by simp[zqd,zhn,h.now],hc.begun,hc.txs,hc.nopen,λk=>?_,λk m=>?_,?_,?_,h.hor,?_,?_,?_,h.nob,?_,?_,?_⟩
 ·show (if ((zle (y.txs[j]).l k).isSome && !false)=true then s.mom k++[s.now+1] else s.mom k)=zy (y.l++ks.filterMap (zzb (y.txs[j]).l (y.now+1))) k
  rw[z7l,zbp hs (λk hk=>(hm k).1 hk),h.mom,h.now]
  by_cases hk:k∈ks
  ·simp[(hw k).2 hk,hk]
  ·have:(zle (y.txs[j]).l k).isSome=false:=by rw[Bool.eq_false_iff];exact λe=>hk ((hw k).1 e)
   simp[this,hk]
 ·show (if m=s.now+1∧((zle (y.txs[j]).l k).isSome && !false)=true then zle (y.txs[j]).l k else s.ver k m)=z2b (y.l++ks.filterMap (zzb (y.txs[j]).l (y.now+1))) k m
  rw[z3n,z8r hs (λk hk=>(hm k).1 hk),h.ver,h.now]
  by_cases hn:m=y.now+1
  ·have h0:z2b y.l k m=none:=by
    unfold z2b
    rw[List.find?_eq_none.2];rfl
    intro v hv
    have:=hy.ver v hv
    simp;omega
   rw[h0]
   by_cases hk:k∈ks
   ·simp[(hw k).2 hk,hk,hn]
   ·have:(zle (y.txs[j]).l k).isSome=false:=by rw[Bool.eq_false_iff];exact λe=>hk ((hw k).1 e)
    simp[this,hk]
  ·simp[hn]
 ·show (nv':Int)≤10*(y.now+1)
  have:nv'≤s.nv+(y.txs[j]).l.length:=hnv
  omega
 ·show (nm':Int)≤10*(y.now+1)
  have:nm'≤s.nm+(y.txs[j]).l.length:=hnm
  omega
 ·obtain⟨ws,hws,hw10,hlg,hsy⟩:=hl
  have:=h.lgl
  show (l'.lg.length:Int)≤y.now+1+y.hor
  rw[hlg];simp;omega
 ·obtain⟨ws,hws,hw10,hlg,hsy⟩:=hl
  intro b hb
  have hb':b∈l'.lg:=hb
  rw[hlg]at hb'
  rcases List.mem_append.1 hb' with h1|h1
  ·exact h.lgb b h1
  ·simp at h1;subst h1
   have:=zch (s.now+1).toNat ws (λx hx=>by
    obtain⟨v,hv,ek,ev⟩:=z4m (hws.at_ x hx)
    have hk:=(hy.txs _ (List.getElem_mem hj)).ok v hv
    refine⟨by rw[← ek];exact zgi hk.1,by rw[ev];exact hk.2⟩)
   omega
 ·obtain⟨ws,hws,hw10,hlg,hsy⟩:=hl
  show l'.sy≤bytesOf (zm l'.lg)
  rw[hlg,hsy]
  exact Nat.le_trans h.sy (z8e _ _)
 ·obtain⟨ws,hws,hw10,hlg,hsy⟩:=hl
  show y.lg++[zbb (y.now+1).toNat ((ks.filterMap (zzb (y.txs[j]).l (y.now+1))).map toW)]=l'.lg
  rw[hlg,h.lg,h.now,zyz hws hs hm]
 ·obtain⟨ws,hws,hw10,hlg,hsy⟩:=hl
  show y.syn=(l'.sy:Int)
  rw[hsy]
  exact h.syn
 ·intro b hb
  rcases List.mem_append.1 hb with h1|h1
  ·exact h.lgn b h1
  ·simp at h1;subst h1;simp[zbb]
theorem YI.committed (hy:YI y){j:Nat}(hj:j<y.txs.length)(ho:(y.txs[j]).over=false)(h0:¬(y.txs[j]).l.length=0)(hnow:y.now≠2000){ks:List ByteArray}(hs:ks.Pairwise blt)(hm:∀k,k∈ks↔∃v∈(y.txs[j]).l,v.key=k):YI (zhn y j hj ks):=by
 have hn:=hy.now
 have ht:=hy.txs _ (List.getElem_mem hj)
 have hks:ks.length≤10:=by
  have h1:=zgr (a:=ks) (b:=(y.txs[j]).l.map (·.key)) (hs.imp (λ{a b} h e=>by subst e;exact zic _ h)) (λk hk=>by
   obtain⟨v,hv,e⟩:=(hm k).1 hk
   exact List.mem_map.2 ⟨v,hv,e⟩)
  have h2:=ht.len
  rw[List.length_map]at h1
  omega
 have hc:=hy.closed hj ho
 refine⟨⟨by show 0≤y.now+1;omega,by show y.now+1≤2000;omega⟩,?_,?_,?_,λt h1=>?_,hc.opn,⟨hy.hor.1,by show y.hor≤y.now+1;have:=hy.hor;omega⟩,hc.pin,hy.bku,?_⟩
 ·show ((y.l++ks.filterMap (zzb (y.txs[j]).l (y.now+1))).length:Int)≤10*(y.now+1)
  have h1:=List.length_filterMap_le (zzb (y.txs[j]).l (y.now+1)) ks
  have h2:=hy.len
  rw[List.length_append]
  omega
 ·intro v hv
  show 1≤v.t∧v.t≤y.now+1∧_
  rcases List.mem_append.1 hv with h1|h1
  ·have:=hy.ver v h1
   exact⟨this.1,by omega,this.2.2⟩
  ·obtain⟨k,hk,v0,hv0,e,rfl⟩:=z9f h1
   exact⟨by show 1≤y.now+1;omega,Int.le_refl _,(ht.ok v0 hv0).1⟩
 ·show (y.l++ks.filterMap (zzb (y.txs[j]).l (y.now+1))).Pairwise _
  rw[List.pairwise_append]
  refine⟨hy.up,?_,λa ha b hb=>?_⟩
  ·rw[List.pairwise_filterMap]
   refine hs.imp ?_
   intro a b hab u hu v hv
   obtain⟨a',ha',_,_,e1,e2⟩:=z9f (ks:=[a]) (l:=(y.txs[j]).l) (n:=y.now+1) (y:=u) (List.mem_filterMap.2 ⟨a,by simp,hu⟩)
   obtain⟨b',hb',_,_,e3,e4⟩:=z9f (ks:=[b]) (l:=(y.txs[j]).l) (n:=y.now+1) (y:=v) (List.mem_filterMap.2 ⟨b,by simp,hv⟩)
   have ea:a'=a:=by simpa using ha'
   have eb:b'=b:=by simpa using hb'
   subst ea;subst eb;subst e2;subst e4
   refine⟨Int.le_refl _,λ_ e=>?_⟩
   have e':a'=b':=by rw[← e1,← e3];exact e
   exact zic _ (e' ▸ hab)
  ·have h1:=hy.ver a ha
   obtain⟨k,hk,v0,hv0,e,rfl⟩:=z9f hb
   exact⟨by show a.t≤y.now+1;omega,λe=>by have:a.t=y.now+1:=e;omega⟩
 ·have h2:=hc.txs t h1
  exact⟨⟨h2.sees.1,by have:=h2.sees.2;show t.sees≤y.now+1;have:t.sees≤y.now:=this;omega⟩,h2.len,h2.one,h2.ok⟩
 ·have hmem:∀v∈ks.filterMap (zzb (y.txs[j]).l (y.now+1)),zu v.key=true∧v.s.size≤20:=λv hv=>by
   obtain⟨k,hk,v0,hv0,e,rfl⟩:=z9f hv
   exact ht.ok v0 hv0
  refine hy.lgv.commit hn.1 (by omega) ?_ ?_ ?_ (λx hx=>?_)
  ·rw[List.map_map,List.pairwise_map,List.pairwise_filterMap]
   refine hs.imp ?_
   intro a b hab u hu v hv
   obtain⟨a',ha',_,_,e1,e2⟩:=z9f (ks:=[a]) (l:=(y.txs[j]).l) (n:=y.now+1) (y:=u) (List.mem_filterMap.2 ⟨a,by simp,hu⟩)
   obtain⟨b',hb',_,_,e3,e4⟩:=z9f (ks:=[b]) (l:=(y.txs[j]).l) (n:=y.now+1) (y:=v) (List.mem_filterMap.2 ⟨b,by simp,hv⟩)
   have ea:a'=a:=by simpa using ha'
   have eb:b'=b:=by simpa using hb'
   subst ea;subst eb;subst e2;subst e4
   show blt _ _
   rw[e1,e3]
   exact hab
  ·rw[List.length_map]
   have hne:(y.txs[j]).l≠[]:=λe=>h0 (by rw[e];rfl)
   obtain⟨v,hv⟩:=List.exists_mem_of_ne_nil _ hne
   have hk:=(hm v.key).2 ⟨v,hv,rfl⟩
   obtain⟨i,hi,_⟩:=zye (l:=(y.txs[j]).l) (k:=v.key) ⟨v,hv,rfl⟩
   refine List.length_pos_iff.2 (List.ne_nil_of_mem (a:={ (y.txs[j]).l[i]'(z0g hi) with t:=y.now+1 }) (List.mem_filterMap.2 ⟨v.key,hk,?_⟩))
   unfold zzb
   rw[hi]
   simp[List.getElem?_eq_getElem (z0g hi)]
  ·rw[List.length_map]
   have h1:=List.length_filterMap_le (zzb (y.txs[j]).l (y.now+1)) ks
   omega
  ·obtain⟨v,hv,rfl⟩:=List.mem_map.1 hx
   exact hmem v hv
def zjc:YS:=⟨[],0,[],0,0,.slice none 0 0,[]⟩
theorem z1r (mu:Nat):ztb (zdc mu) zjc:=by
 refine⟨rfl,rfl,λn=>?_,rfl,λ_=>rfl,λ_ _=>rfl,by simp[zdc,zjc],by simp[zdc,zjc],rfl,by simp[zdc,zjc],by simp[zdc],by simp[zdc],λ_=>rfl,rfl,rfl,by simp[zjc]⟩
 rw[zof];rfl
 simp[zab,zjc]
theorem zfs:YI zjc:=⟨by simp[zjc],by simp[zjc],by simp[zjc],by simp[zjc],by simp[zjc],by simp[zjc,ztc],by simp[zjc],by simp[zjc],rfl,zw1⟩
end
end
section
open Go.RowKit
section
variable {R:Ending→World→Prop}
def z0b (c:Int)(n:Nat):Nat:=if c<0 then ((-(c+1)).tmod n).toNat else (c.tmod n).toNat
theorem zug (c:Int)(n:Nat)(hn:0<n):z0b c n<n:=by
 have h1:(0:Int)<n:=by omega
 unfold z0b
 split
 ·have b1:0≤-(c+1):=by omega
  have m1:=Int.tmod_nonneg (n:Int) b1
  have m2:=Int.tmod_lt_of_pos (-(c+1)) h1
  omega
 ·have b1:0≤c:=by omega
  have m1:=Int.tmod_nonneg (n:Int) b1
  have m2:=Int.tmod_lt_of_pos c h1
  omega
theorem znf (c:Int)(n:Nat)(w:World)(hc:-9223372036854775808≤c∧c≤9223372036854775807)(hn:0<n)(hn2:n<1000000000)(hR:R (.returned (.int .i64 (z0b c n))) w) :
  Calls Tryz.prog 60 #[.int .i64 c,.int .i64 n] w R:=by
 have hn0:(n:Int)≠0:=by omega
 have h1:(0:Int)<n:=by omega
 have h2:(n:Int)<1000000000:=by omega
 by_cases h0:c<0
 ·have b1:0≤-(c+1):=by omega
  have m1:=Int.tmod_nonneg (n:Int) b1
  have m2:=Int.tmod_lt_of_pos (-(c+1)) h1
  rw[z0b,if_pos h0,Int.toNat_of_nonneg m1,Int.neg_tmod]at hR
  go_enter Tryz.func60,Tryz.ntmps60
  go_wp2
  exact hR
 ·have b1:0≤c:=by omega
  have m1:=Int.tmod_nonneg (n:Int) b1
  have m2:=Int.tmod_lt_of_pos c h1
  rw[z0b,if_neg h0,Int.toNat_of_nonneg m1,Int.tmod_eq_emod_of_nonneg b1]at hR
  go_enter Tryz.func60,Tryz.ntmps60
  go_wp2
  exact hR
end
end
section
open Go.RowKit
def zkb (kind e a b:Int)(s t:ByteArray)(vl vm:Value):Value:=.agg #[.int .i64 kind,.int .i64 e,.int .i64 a,.int .i64 b,.string s,.string t,vl,vm]
def zjb (px py:Nat):Value:=.agg #[.pointer (some ⟨px,0,none⟩),.pointer (some ⟨py,0,none⟩)]
def zeb (w:World)(px py:Nat)(kind e a b:Int)(s t:ByteArray)(vl vm:Value):World:=
 (w.alloc (.cells #[.pointer (some ⟨px,0,none⟩),.pointer (some ⟨py,0,none⟩)] 81)).alloc (.cells #[.int .i64 kind,.int .i64 e,.int .i64 a,.int .i64 b,.string s,.string t,vl,vm] 71)
section
variable {R:Ending→World→Prop}
theorem zfd (w:World)(px py:Nat)(kind e a b:Int)(s t:ByteArray)(vl vm:Value):Kp (λ_=>False) w (zeb w px py kind e a b s t vl vm):=
 (Kp.alloc _ _ _).trans (Kp.alloc (λ_=>False) _ _) (λ_ _ h=>h)
theorem zso (w:World)(px py:Nat)(kind e a b:Int)(s t:ByteArray)(vl vm:Value):(zeb w px py kind e a b s t vl vm).heap.size=w.heap.size+2:=by simp[zeb]
theorem z7c {w w2:World}{px py:Nat}{kind e a b:Int}{s t:ByteArray}{vl vm:Value}(h:Kp (λb=>b<w.heap.size) (zeb w px py kind e a b s t vl vm) w2) :
  w2.heap[w.heap.size]?=some (.cells #[.pointer (some ⟨px,0,none⟩),.pointer (some ⟨py,0,none⟩)] 81 (0,0)):=by
 rw[h.block _ (by rw[zso];omega) (by simp),zeb,Below.heap_alloc _ _ _ (by simp)]
 exact heap_alloc_new w _
theorem zbc {w w2:World}{px py:Nat}{kind e a b:Int}{s t:ByteArray}{vl vm:Value}(h:Kp (λb=>b<w.heap.size) (zeb w px py kind e a b s t vl vm) w2) :
  w2.heap[w.heap.size+1]?=some (.cells #[.int .i64 kind,.int .i64 e,.int .i64 a,.int .i64 b,.string s,.string t,vl,vm] 71 (0,0)):=by
 rw[h.block _ (by rw[zso];omega) (by simp)]
 have:=heap_alloc_new (w.alloc (.cells #[.pointer (some ⟨px,0,none⟩),.pointer (some ⟨py,0,none⟩)] 81)) (.cells #[.int .i64 kind,.int .i64 e,.int .i64 a,.int .i64 b,.string s,.string t,vl,vm] 71)
 simpa [zeb] using this
set_option maxRecDepth 20000 in
set_option maxHeartbeats 1000000 in
theorem z6x (w:World)(p px py:Nat)(e a b:Int)(s t:ByteArray)(vl vm:Value)
  (hX:Calls Tryz.prog 34 #[.pointer (some ⟨px,0,none⟩)] (zeb w px py 2 e a b s t vl vm) (λr w2=>∃n er,r = .returned (.tuple #[.int .i64 n,.int .i64 er])∧Kp (λb=>b<w.heap.size) (zeb w px py 2 e a b s t vl vm) w2∧
   Calls Tryz.prog 101 #[.pointer (some ⟨py,0,none⟩)] w2 (λr' w3=>r' = .returned (.tuple #[.int .i64 n,.int .i64 er])∧R (.returned (.bool true)) w3))) :
  Calls Tryz.prog 61 #[.pointer (some ⟨p,0,none⟩),zjb px py,zkb 2 e a b s t vl vm] w R:=by
 unfold zeb at hX
 have HX:=ze hX
 unfold zjb zkb
 clear hX
 go_enter Tryz.func61,Tryz.ntmps61
 go_wp2_with (first
  |(go_at_call 34;refine HX.out.mono ?_;rintro r w2 ⟨n,er,rfl,hk,hy⟩;have HY:=ze hy;have q1:=zg (z7c hk) 1;clear hy hk)
  |(go_at_call 101;refine HY.out.mono ?_;rintro r w3 ⟨rfl,hr⟩)
  |go_in)
 exact hr
set_option maxRecDepth 20000 in
set_option maxHeartbeats 1000000 in
theorem zk2 (w:World)(p px py:Nat)(e a b:Int)(s t:ByteArray)(vl vm:Value)
  (hX:Calls Tryz.prog 102 #[.pointer (some ⟨px,0,none⟩),.int .i64 a,.string s] (zeb w px py 3 e a b s t vl vm) (λr w2=>∃u er,r = .returned (.tuple #[.string u,.int .i64 er])∧Kp (λb=>b<w.heap.size) (zeb w px py 3 e a b s t vl vm) w2∧
   Calls Tryz.prog 103 #[.pointer (some ⟨py,0,none⟩),.int .i64 a,.string s] w2 (λr' w3=>r' = .returned (.tuple #[.string u,.int .i64 er])∧R (.returned (.bool true)) w3))) :
  Calls Tryz.prog 61 #[.pointer (some ⟨p,0,none⟩),zjb px py,zkb 3 e a b s t vl vm] w R:=by
 unfold zeb at hX
 have HX:=ze hX
 unfold zjb zkb
 clear hX
 go_enter Tryz.func61,Tryz.ntmps61
 go_wp2_with (first
  |(go_at_call 102;refine HX.out.mono ?_;rintro r w2 ⟨u,er,rfl,hk,hy⟩;have HY:=ze hy;have q1:=zg (z7c hk) 1;have q12:=zg (zbc hk) 2;have q14:=zg (zbc hk) 4;clear hy hk)
  |(go_at_call 103;refine HY.out.mono ?_;rintro r w3 ⟨rfl,hr⟩)
  |go_in)
 exact hr
set_option maxRecDepth 20000 in
set_option maxHeartbeats 1000000 in
theorem zn0 (w:World)(p px py:Nat)(e a b:Int)(s t:ByteArray)(vl vm:Value)
  (hX:Calls Tryz.prog 104 #[.pointer (some ⟨px,0,none⟩),.int .i64 a,.string s,.string t] (zeb w px py 4 e a b s t vl vm) (λr w2=>∃v er,r = .returned (.tuple #[v,.int .i64 er])∧Kp (λb=>b<w.heap.size) (zeb w px py 4 e a b s t vl vm) w2∧
   Calls Tryz.prog 105 #[.pointer (some ⟨py,0,none⟩),.int .i64 a,.string s,.string t] w2 (λr' w3=>∃v',r' = .returned (.tuple #[v',.int .i64 er])∧Calls Tryz.prog 100 #[.pointer (some ⟨p,0,none⟩),v,.int .i64 er,v',.int .i64 er] w3 (λr w4=>r = .returned (.bool true)∧R (.returned (.bool true)) w4)))) :
  Calls Tryz.prog 61 #[.pointer (some ⟨p,0,none⟩),zjb px py,zkb 4 e a b s t vl vm] w R:=by
 unfold zeb at hX
 have HX:=ze hX
 unfold zjb zkb
 clear hX
 go_enter Tryz.func61,Tryz.ntmps61
 go_wp2_with (first
  |(go_at_call 104;refine HX.out.mono ?_;rintro r w2 ⟨v,er,rfl,hk,hy⟩;have HY:=ze hy;have q1:=zg (z7c hk) 1;have q12:=zg (zbc hk) 2;have q14:=zg (zbc hk) 4;have q15:=zg (zbc hk) 5;clear hy hk)
  |(go_at_call 105;refine HY.out.mono ?_;rintro r w3 ⟨v',rfl,hp⟩;have HP:=ze hp;clear hp)
  |(go_at_call 100;refine HP.out.mono ?_;rintro r w4 ⟨rfl,hr⟩)
  |go_in)
 exact hr
set_option maxRecDepth 20000 in
set_option maxHeartbeats 1000000 in
theorem zn2 (w:World)(p px py:Nat)(e a b:Int)(s t:ByteArray)(vl vm:Value)
  (hX:Calls Tryz.prog 35 #[.pointer (some ⟨px,0,none⟩),.int .i64 a,.string s,.string t] (zeb w px py 5 e a b s t vl vm) (λr w2=>∃er,r = .returned (.int .i64 er)∧Kp (λb=>b<w.heap.size) (zeb w px py 5 e a b s t vl vm) w2∧
   Calls Tryz.prog 106 #[.pointer (some ⟨py,0,none⟩),.int .i64 a,.agg #[.string s,.int .i64 0,.bool false,.string t]] w2 (λr' w3=>r' = .returned (.int .i64 er)∧R (.returned (.bool true)) w3))) :
  Calls Tryz.prog 61 #[.pointer (some ⟨p,0,none⟩),zjb px py,zkb 5 e a b s t vl vm] w R:=by
 unfold zeb at hX
 have HX:=ze hX
 unfold zjb zkb
 clear hX
 go_enter Tryz.func61,Tryz.ntmps61
 go_wp2_with (first
  |(go_at_call 35;refine HX.out.mono ?_;rintro r w2 ⟨er,rfl,hk,hy⟩;have HY:=ze hy;have q1:=zg (z7c hk) 1;have q12:=zg (zbc hk) 2;have q14:=zg (zbc hk) 4;have q15:=zg (zbc hk) 5;clear hy hk)
  |(go_at_call 106;refine HY.out.mono ?_;rintro r w3 ⟨rfl,hr⟩)
  |go_in)
 exact hr
set_option maxRecDepth 20000 in
set_option maxHeartbeats 1000000 in
theorem zuv (w:World)(p px py:Nat)(e a b:Int)(s t:ByteArray)(vl vm:Value)
  (hX:Calls Tryz.prog 73 #[.pointer (some ⟨px,0,none⟩),.int .i64 a,.string s] (zeb w px py 6 e a b s t vl vm) (λr w2=>∃er,r = .returned (.int .i64 er)∧Kp (λb=>b<w.heap.size) (zeb w px py 6 e a b s t vl vm) w2∧
   Calls Tryz.prog 106 #[.pointer (some ⟨py,0,none⟩),.int .i64 a,.agg #[.string s,.int .i64 0,.bool true,.string ⟨#[]⟩]] w2 (λr' w3=>r' = .returned (.int .i64 er)∧R (.returned (.bool true)) w3))) :
  Calls Tryz.prog 61 #[.pointer (some ⟨p,0,none⟩),zjb px py,zkb 6 e a b s t vl vm] w R:=by
 unfold zeb at hX
 have HX:=ze hX
 unfold zjb zkb
 clear hX
 go_enter Tryz.func61,Tryz.ntmps61
 go_wp2_with (first
  |(go_at_call 73;refine HX.out.mono ?_;rintro r w2 ⟨er,rfl,hk,hy⟩;have HY:=ze hy;have q1:=zg (z7c hk) 1;have q12:=zg (zbc hk) 2;have q14:=zg (zbc hk) 4;clear hy hk)
  |(go_at_call 106;refine HY.out.mono ?_;rintro r w3 ⟨rfl,hr⟩)
  |go_in)
 exact hr
set_option maxRecDepth 20000 in
set_option maxHeartbeats 1000000 in
theorem ztv (w:World)(p px py:Nat)(e a b:Int)(s t:ByteArray)(vl vm:Value)
  (hX:Calls Tryz.prog 36 #[.pointer (some ⟨px,0,none⟩),.int .i64 a] (zeb w px py 7 e a b s t vl vm) (λr w2=>∃n er,r = .returned (.tuple #[.int .i64 n,.int .i64 er])∧Kp (λb=>b<w.heap.size) (zeb w px py 7 e a b s t vl vm) w2∧
   Calls Tryz.prog 107 #[.pointer (some ⟨py,0,none⟩),.int .i64 a] w2 (λr' w3=>r' = .returned (.tuple #[.int .i64 n,.int .i64 er])∧R (.returned (.bool true)) w3))) :
  Calls Tryz.prog 61 #[.pointer (some ⟨p,0,none⟩),zjb px py,zkb 7 e a b s t vl vm] w R:=by
 unfold zeb at hX
 have HX:=ze hX
 unfold zjb zkb
 clear hX
 go_enter Tryz.func61,Tryz.ntmps61
 go_wp2_with (first
  |(go_at_call 36;refine HX.out.mono ?_;rintro r w2 ⟨n,er,rfl,hk,hy⟩;have HY:=ze hy;have q1:=zg (z7c hk) 1;have q12:=zg (zbc hk) 2;clear hy hk)
  |(go_at_call 107;refine HY.out.mono ?_;rintro r w3 ⟨rfl,hr⟩)
  |go_in)
 exact hr
set_option maxRecDepth 20000 in
set_option maxHeartbeats 1000000 in
theorem z5x (w:World)(p px py:Nat)(e a b:Int)(s t:ByteArray)(vl vm:Value)
  (hX:Calls Tryz.prog 108 #[.pointer (some ⟨px,0,none⟩),.int .i64 a] (zeb w px py 8 e a b s t vl vm) (λr w2=>∃er,r = .returned (.int .i64 er)∧Kp (λb=>b<w.heap.size) (zeb w px py 8 e a b s t vl vm) w2∧
   Calls Tryz.prog 109 #[.pointer (some ⟨py,0,none⟩),.int .i64 a] w2 (λr' w3=>r' = .returned (.int .i64 er)∧R (.returned (.bool true)) w3))) :
  Calls Tryz.prog 61 #[.pointer (some ⟨p,0,none⟩),zjb px py,zkb 8 e a b s t vl vm] w R:=by
 unfold zeb at hX
 have HX:=ze hX
 unfold zjb zkb
 clear hX
 go_enter Tryz.func61,Tryz.ntmps61
 go_wp2_with (first
  |(go_at_call 108;refine HX.out.mono ?_;rintro r w2 ⟨er,rfl,hk,hy⟩;have HY:=ze hy;have q1:=zg (z7c hk) 1;have q12:=zg (zbc hk) 2;clear hy hk)
  |(go_at_call 109;refine HY.out.mono ?_;rintro r w3 ⟨rfl,hr⟩)
  |go_in)
 exact hr
set_option maxRecDepth 20000 in
set_option maxHeartbeats 1000000 in
theorem zl2 (w:World)(p px py:Nat)(e a b:Int)(s t:ByteArray)(vl vm:Value)
  (hX:Calls Tryz.prog 15 #[.pointer (some ⟨px,0,none⟩)] (zeb w px py 9 e a b s t vl vm) (λr w2=>∃n,r = .returned (.int .i64 n)∧Kp (λb=>b<w.heap.size) (zeb w px py 9 e a b s t vl vm) w2∧
   w2.cell? ⟨py,2,none⟩=some (.int .i64 n)∧R (.returned (.bool true)) w2)) :
  Calls Tryz.prog 61 #[.pointer (some ⟨p,0,none⟩),zjb px py,zkb 9 e a b s t vl vm] w R:=by
 unfold zeb at hX
 have HX:=ze hX
 unfold zjb zkb
 clear hX
 go_enter Tryz.func61,Tryz.ntmps61
 go_wp2_with (first
  |(go_at_call 15;refine HX.out.mono ?_;rintro r w2 ⟨n,rfl,hk,hy,hr⟩;have q1:=zg (z7c hk) 1;clear hk)
  |go_in)
 exact hr
end
end
section
open Go.RowKit
def XE (own:Nat→Lab)(c:Nat)(w:World)(p:Nat)(s:XS):Prop:=∃mo ph mv mm pt mw sl,XR own c w p s mo ph mv mm pt mw sl
section
variable {own own':Nat→Lab}{c:Nat}{w w':World}{p:Nat}{s s':XS}{N M:Nat→Prop}
theorem XE.frame (h:XE own c w p s)(hb:∀b,b<w.heap.size→(own b).c=c→w'.heap[b]?=w.heap[b]?)(ho:∀b,b<w.heap.size→(own b).c=c→own' b=own b):XE own' c w' p s:=by
 obtain⟨mo,ph,mv,mm,pt,mw,sl,h⟩:=h
 exact⟨mo,ph,mv,mm,pt,mw,sl,h.frame hb ho⟩
end
end
end Go.Proofs.YthbdpfccfcceiaaGreatDoor
