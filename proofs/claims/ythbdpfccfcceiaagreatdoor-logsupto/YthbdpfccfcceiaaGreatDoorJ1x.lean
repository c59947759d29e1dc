/-
  Of the proof of logsUpto_card.
-/
import Derived.Test.YthbdpfccfcceiaaGreatDoorR11x
namespace Go.Proofs.YthbdpfccfcceiaaGreatDoor
section
open Go.RowKit Go.Maps
theorem z8i (lg:List (List UInt8))(hl:lg.length≤5000)(hb:∀b∈lg,b.length≤400):∀f∈zm lg,f≠[]∧f.length≤100000000:=by
 intro f hf
 refine⟨?_,?_⟩
 ·have:∀(lg:List (List UInt8)) (f:List UInt8),f∈zm lg→f≠[]:=by
   intro lg
   induction lg using zok with
   |h0=>intro f hf;simp[zm,zfh]at hf
   |h1 l x ih=>
    intro f hf
    rw[z8d]at hf
    unfold zrg at hf
    split at hf
    ·rcases List.mem_append.1 hf with h|h
     ·exact ih f h
     ·simp at h;subst h;simp[zqb,z8c]
    ·rcases List.mem_append.1 hf with h|h
     ·exact ih f (List.dropLast_subset _ h)
     ·simp at h;subst h;simp[zqb,z8c]
  exact this lg f hf
 ·have h1:=z3e hf
  have h2:=z2e lg 400 hb
  have h3:lg.length*417≤5000*417:=Nat.mul_le_mul_right _ hl
  omega
section
variable {own own':Nat→Lab}{c:Nat}{w w':World}{p:Nat}{s:XS}{mo ph mv mm:Nat}{pt mw:Int→Nat}{sl:ByteArray→Value}
theorem XR.relog (h:XR own c w p s mo ph mv mm pt mw sl)(l':XL)(hb:∀b,b<w.heap.size→(own b).c=c→(own b).k≠0→(own b).k≠8→(own b).k≠9→w'.heap[b]?=w.heap[b]?)(ho:∀b,b<w.heap.size→own' b=own b)
  (hst:w'.heap[p]?=some (.cells #[.pointer (some ⟨ph,0,none⟩),.int .i64 s.hor,.int .i64 s.now,l'.lf,.int .i64 (zqe l'.lg.length:Nat),.int .i64 (l'.sy:Nat),.int .i64 s.begun,.map (some mo),.int .i64 s.bk.taken,.map (some s.bk.mu)] 102 (0,0)))
  (hl:zem own' c w' l'):XR own' c w' p { s with log:=l' } mo ph mv mm pt mw sl:=by
 have lp:=zh h.store;have lh:=zh h.hist;have lo:=h.opn.lt;have lv:=h.vers.lt;have lm:=h.moms.lt
 have b':∀b k i x,b<w.heap.size→own b=⟨c,k,i,x⟩→k≠0→k≠8→k≠9→w'.heap[b]?=w.heap[b]?:=λb k i x hlt e h0 h8 h9=>hb b hlt (by rw[e]) (by rw[e];exact h0) (by rw[e];exact h8) (by rw[e];exact h9)
 refine⟨(ho p lp).trans h.ownP,(ho mo lo).trans h.ownO,(ho ph lh).trans h.ownH,(ho mv lv).trans h.ownV,(ho mm lm).trans h.ownM,hst,?_,?_,?_,?_,?_,?_,?_,?_,?_,hl,h.bks.frame (λb hlt hc hk=>hb b hlt hc (by omega) (by omega) (by omega)) (λb hlt _ _=>ho b hlt)⟩
 ·exact (b' ph _ _ _ lh h.ownH (by decide) (by decide) (by decide)).trans h.hist
 ·exact h.opn.of_block (b' mo _ _ _ lo h.ownO (by decide) (by decide) (by decide))
 ·intro n t e
  exact⟨(ho _ (zh (h.tx n t e))).trans (h.ownT n t e).1,(ho _ (h.wr n t e).lt).trans (h.ownT n t e).2⟩
 ·intro n t e
  exact (b' _ _ _ _ (zh (h.tx n t e)) (h.ownT n t e).1 (by decide) (by decide) (by decide)).trans (h.tx n t e)
 ·intro n t e
  exact (h.wr n t e).of_block (b' _ _ _ _ (h.wr n t e).lt (h.ownT n t e).2 (by decide) (by decide) (by decide))
 ·exact h.vers.of_block (b' mv _ _ _ lv h.ownV (by decide) (by decide) (by decide))
 ·exact h.moms.of_block (b' mm _ _ _ lm h.ownM (by decide) (by decide) (by decide))
 ·intro k hk b e
  exact (ho b ((h.row k hk).lt b e).2).trans (h.ownR k hk b e)
 ·intro k hk
  exact zge (h.row k hk) (λb e=>b' b _ _ _ ((h.row k hk).lt b e).2 (h.ownR k hk b e) (by decide) (by decide) (by decide))
def zid (own:Nat→Lab)(c:Nat):Prop:=(own 0).c≠c∧(own 1).c≠c
variable {R:Ending→World→Prop}
theorem ziy (h:XR own c w p s mo ph mv mm pt mw sl)(hT:Tab w)(hN:zid own c)(k t:Int)(rv:Value)(body:List UInt8)(hl:s.log.lg.length≤4999)(hbs:∀b∈s.log.lg,b.length≤400)(hb:body.length≤400)(h1c:rv.oneCell'=true)(hr:zbh w (.agg #[.int .u8 k,.int .i64 t,rv]) body)(hrv:∀b,rv.ownBlock=some b→(own b).c≠c)
  (hR:∀w' own' l',Kp (λb=>(own b).c=c∧((own b).k=0∨(own b).k=8∨(own b).k=9)) w w'→(∀b,b<w.heap.size→own' b=own b)→(∀b,w.heap.size≤b→(own' b)≠own b→(own' b).c=c)→l'.lg=s.log.lg++[body]→l'.sy=s.log.sy→
   XR own' c w' p { s with log:=l' } mo ph mv mm pt mw sl→R (.returned (.tuple #[])) w') :
  Calls Tryz.prog 78 #[.pointer (some ⟨p,3,none⟩),.agg #[.int .u8 k,.int .i64 t,rv]] w R:=by
 obtain⟨pf,cap,elf⟩:=zp h.log.rowF
 have hst:=h.store
 rw[elf]at hst
 have hrow:=h.log.rowF
 rw[elf]at hrow
 have hfl:=z4c s.log.lg
 have hlen:=h.log.len
 have ownF:∀b,(Value.slice pf (zm s.log.lg).length cap).ownBlock=some b→own b=⟨c,8,0,eb⟩:=λb e=>h.log.ownF b (by rw[elf];exact e)
 have hcond:((zm s.log.lg).length=0∨zqe s.log.lg.length=4)↔s.log.lg.length % 4=0:=by
  rw[zco,zzs];omega
 refine ziz p 3 _ 102 pf (zm s.log.lg).length cap (zqe s.log.lg.length) k t rv body w (by decide) (by decide) h1c (by omega) hst rfl rfl s.log.lv (zm s.log.lg) hT hrow rfl (z8i _ (by omega) hbs) h.log.rowB (by omega) (by have:=zww s.log.lg.length;omega) hr ?_ ?_ ?_ ?_
 ·intro b e
  have hn:=hrv b e
  exact⟨λe2=>hn (by rw[e2,h.ownP]),λe2=>hn (by rw[ownF b e2])⟩
 ·intro b e
  have hc:(own b).c=c:=by
   rcases e with e|e
   ·rw[e,h.ownP]
   ·rw[ownF b e]
  exact⟨λe2=>hN.1 (by rw[← e2];exact hc),λe2=>hN.2 (by rw[← e2];exact hc)⟩
 ·intro hq lf' v' w' hp' hrow' hbr' ⟨bv,hbv,hbvl⟩ hlf' hk'
  have hmod:=hcond.1 hq
  have hkk:Kp (λb=>(own b).c=c∧((own b).k=0∨(own b).k=8∨(own b).k=9)) w w':=hk'.mono (λb _ e=>by
   rcases e with e|e
   ·rw[e,h.ownP];simp
   ·rw[ownF b e];simp)
  have hfs:zm (s.log.lg++[body])=zm s.log.lg++[zoc (zm s.log.lg).length++zqb body]:=by rw[z8d];simp[zrg,hmod]
  have hne:lf'.ownBlock≠some bv:=λe=>by
   obtain⟨c1,h1⟩:=zrd hrow' e
   obtain⟨c2,h2⟩:=hbr'.block hbv
   exact zne h1 h2 (by decide) rfl
  have hout:∀b,b<w.heap.size→(λb=>if lf'.ownBlock=some b then (⟨c,8,0,eb⟩:Lab) else if bv=b then ⟨c,9,((zm s.log.lg).length:Nat),eb⟩ else own b) b=own b:=λb hb=>by
   have:bv≠b:=by omega
   by_cases e:lf'.ownBlock=some b
   ·simp only[e,if_true]
    rcases hlf' with h1|⟨b',h1,h2⟩
    ·rw[h1]at e;exact (ownF b e).symm
    ·rw[h1]at e;cases e;omega
   ·simp[e,this]
  refine hR w' _ ⟨lf',s.log.lv++[v'],s.log.lg++[body],s.log.sy⟩ hkk hout (λb _ e=>?_) rfl rfl (h.relog _ (λb hb hc h0 h8 h9=>hkk.block b hb (λe=>by rcases e.2 with e|e|e<;>contradiction)) hout ?_ ?_)
  ·by_cases e1:lf'.ownBlock=some b
   ·simp[e1]
   ·by_cases e2:bv=b
    ·simp[e1,e2]
    ·simp[e1,e2]at e
  ·rw[hp']
   simp only[List.length_append,List.length_cons,List.length_nil,Nat.zero_add,znn _ hmod]
   rfl
  ·refine⟨λb e=>?_,?_,λi v hv b e=>?_,λi v f hv hf=>?_⟩
   ·have e':lf'.ownBlock=some b:=e
    simp[e']
   ·show w'.ownsRow 0 _ 1 lf' (zm (s.log.lg++[body])).length (s.log.lv++[v'])
    rw[hfs];simpa using hrow'
   ·have hv':(s.log.lv++[v'])[i]?=some v:=hv
    rcases Nat.lt_trichotomy i s.log.lv.length with hi|hi|hi
    ·rw[List.getElem?_append_left hi]at hv'
     have h1:=h.log.ownB i v hv' b e
     have hlt:=((h.log.rowB i v _ hv' (List.getElem?_eq_getElem (by omega))).lt b e).2
     exact (hout b hlt).trans h1
    ·subst hi
     simp at hv'
     subst hv'
     rw[hbv]at e
     cases e
     simp[hne,hlen]
    ·rw[List.getElem?_eq_none (by simp;omega)]at hv';cases hv'
   ·have hv':(s.log.lv++[v'])[i]?=some v:=hv
    have hf':(zm (s.log.lg++[body]))[i]?=some f:=hf
    rw[hfs]at hf'
    rcases Nat.lt_trichotomy i s.log.lv.length with hi|hi|hi
    ·rw[List.getElem?_append_left hi]at hv'
     rw[List.getElem?_append_left (by omega)]at hf'
     have h0:=h.log.rowB i v f hv' hf'
     refine zge h0 (λb e=>hk'.block b (h0.lt b e).2 ?_)
     have h1:=h.log.ownB i v hv' b e
     rintro (e2|e2)
     ·rw[e2,h.ownP]at h1;simp at h1
     ·rw[ownF b e2]at h1;simp at h1
    ·subst hi
     simp at hv'
     rw[hlen]at hf'
     simp at hf'
     subst hv';subst hf'
     exact hbr'
    ·rw[List.getElem?_eq_none (by simp;omega)]at hv';cases hv'
 ·intro hq lv2 v f v' w' elv hf hp' hrow' hbr' hlv' hk'
  have hmod:s.log.lg.length % 4≠0:=λe=>hq (hcond.2 e)
  have hl2:lv2.length+1=(zm s.log.lg).length:=by rw[← hlen,elv];simp
  have hvat:s.log.lv[lv2.length]?=some v:=by rw[elv];simp
  have ownV:∀b,v.ownBlock=some b→own b=⟨c,9,(lv2.length:Nat),eb⟩:=λb e=>h.log.ownB lv2.length v hvat b e
  have hkk:Kp (λb=>(own b).c=c∧((own b).k=0∨(own b).k=8∨(own b).k=9)) w w':=hk'.mono (λb _ e=>by
   rcases e with e|e|e
   ·rw[e,h.ownP];simp
   ·rw[ownF b e];simp
   ·rw[ownV b e];simp)
  have hgl:(zm s.log.lg).getLastD []=f:=by
   rw[List.getLastD_eq_getLast?,List.getLast?_eq_getElem?,show (zm s.log.lg).length-1=lv2.length by omega,hf];rfl
  have hfs:zm (s.log.lg++[body])=(zm s.log.lg).dropLast++[f++zqb body]:=by rw[z8d];unfold zrg;rw[if_neg hmod,hgl]
  have hdl:(zm s.log.lg).dropLast.length=lv2.length:=by simp;omega
  have hdr:∀i,i<lv2.length→(zm s.log.lg).dropLast[i]?=(zm s.log.lg)[i]?:=λi hi=>by
   rw[List.getElem?_dropLast,if_pos (by omega)]
  have hout:∀b,b<w.heap.size→(λb=>if v'.ownBlock=some b then (⟨c,9,(lv2.length:Nat),eb⟩:Lab) else own b) b=own b:=λb hb=>by
   by_cases e:v'.ownBlock=some b
   ·simp only[e,if_true]
    rcases hlv' with h1|⟨b',h1,h2⟩
    ·rw[h1]at e;exact (ownV b e).symm
    ·rw[h1]at e;cases e;omega
   ·simp[e]
  refine hR w' _ ⟨.slice pf (zm s.log.lg).length cap,lv2++[v'],s.log.lg++[body],s.log.sy⟩ hkk hout (λb _ e=>?_) rfl rfl (h.relog _ (λb hb hc h0 h8 h9=>hkk.block b hb (λe=>by rcases e.2 with e|e|e<;>contradiction)) hout ?_ ?_)
  ·by_cases e1:v'.ownBlock=some b
   ·simp[e1]
   ·simp[e1]at e
  ·rw[hp']
   simp only[List.length_append,List.length_cons,List.length_nil,Nat.zero_add,z0s _ hmod]
   rfl
  ·refine⟨λb e=>?_,?_,λi u hu b e=>?_,λi u g hu hg=>?_⟩
   ·have e':(Value.slice pf (zm s.log.lg).length cap).ownBlock=some b:=e
    exact (hout b (hrow.lt b e').2).trans (ownF b e')
   ·show w'.ownsRow 0 _ 1 (.slice pf (zm s.log.lg).length cap) (zm (s.log.lg++[body])).length (lv2++[v'])
    rw[hfs,List.length_append,hdl]
    simp only[List.length_cons,List.length_nil,Nat.zero_add]
    rw[hl2]
    exact hrow'
   ·have hu':(lv2++[v'])[i]?=some u:=hu
    rcases Nat.lt_trichotomy i lv2.length with hi|hi|hi
    ·rw[List.getElem?_append_left hi]at hu'
     have hu2:s.log.lv[i]?=some u:=by rw[elv,List.getElem?_append_left hi];exact hu'
     have h1:=h.log.ownB i u hu2 b e
     have hlt:=((h.log.rowB i u _ hu2 (List.getElem?_eq_getElem (by omega))).lt b e).2
     exact (hout b hlt).trans h1
    ·subst hi
     simp at hu'
     subst hu'
     simp[e]
    ·rw[List.getElem?_eq_none (by simp;omega)]at hu';cases hu'
   ·have hu':(lv2++[v'])[i]?=some u:=hu
    have hg':(zm (s.log.lg++[body]))[i]?=some g:=hg
    rw[hfs]at hg'
    rcases Nat.lt_trichotomy i lv2.length with hi|hi|hi
    ·rw[List.getElem?_append_left hi]at hu'
     rw[List.getElem?_append_left (by omega),hdr i hi]at hg'
     have hu2:s.log.lv[i]?=some u:=by rw[elv,List.getElem?_append_left hi];exact hu'
     have h0:=h.log.rowB i u g hu2 hg'
     refine zge h0 (λb e=>hk'.block b (h0.lt b e).2 ?_)
     have h1:=h.log.ownB i u hu2 b e
     rintro (e2|e2|e2)
     ·rw[e2,h.ownP]at h1;simp at h1
     ·rw[ownF b e2]at h1;simp at h1
     ·rw[ownV b e2]at h1;simp at h1;omega
    ·subst hi
     rw[← hdl]at hg'
     simp at hu' hg'
     subst hu';subst hg'
     exact hbr'
    ·rw[List.getElem?_eq_none (by simp;omega)]at hu';cases hu'
end
end
section
open Go.RowKit Go.Maps Go.Lib
def zgb:List (List UInt8)→Nat→List (List UInt8)
 |[],_=>[]
 |f::r,n=>if n=0 then [] else f.take n::zgb r (n-f.length)
structure FR (base:Nat)(w:World)(v:Value)(fs:List (List UInt8))(lv:List Value):Prop where
 row:w.ownsRow base 48 1 v fs.length lv
 at_:∀(i:Nat) u f,lv[i]?=some u→fs[i]?=some f→BR base w u f
 apart:∀(i j:Nat) u v b,lv[i]?=some u→lv[j]?=some v→u.ownBlock=some b→v.ownBlock=some b→i=j
theorem FR.len {base:Nat}{w:World}{v:Value}{fs:List (List UInt8)}{lv:List Value}(h:FR base w v fs lv):lv.length=fs.length:=by simpa using h.row.1
theorem FR.nil (base:Nat)(w:World):FR base w (.slice none 0 0) [] []:=⟨World.ownsRow_nil _ _ _ _,λi u f hu=>by simp at hu,λi j u v b hu=>by simp at hu⟩
theorem FR.kept {base:Nat}{w w':World}{v:Value}{fs:List (List UInt8)}{lv:List Value}(h:FR base w v fs lv)(hk:Kp (λ_=>False) w w'):FR base w' v fs lv:=
 ⟨zi h.row hk (λ_ _ e=>e),λi u f hu hf=>(h.at_ i u f hu hf).kept hk,h.apart⟩
theorem FR.snoc {base:Nat}{w w1 w2:World}{v v2 u:Value}{fs:List (List UInt8)}{lv:List Value}{f:List UInt8}(h:FR base w1 v fs lv)(hu:BR w.heap.size w1 u f)(hsz:∀b,v.ownBlock=some b→b<w.heap.size)(hold:∀(i:Nat) x,lv[i]?=some x→∀b,x.ownBlock=some b→b<w.heap.size)
  (hb:base≤w.heap.size) (hrow:w2.ownsRow base 48 1 v2 (fs.length+1) (lv++[u])) (hk:Kp (λb=>v.ownBlock=some b) w1 w2):FR base w2 v2 (fs++[f]) (lv++[u]):=by
 have hl:=h.len
 refine⟨by simpa using hrow,λi x g hx hg=>?_,λi j x y b hx hy ex ey=>?_⟩
 ·rcases Nat.lt_trichotomy i lv.length with hi|hi|hi
  ·rw[List.getElem?_append_left hi]at hx
   rw[List.getElem?_append_left (by omega)]at hg
   have h0:=h.at_ i x g hx hg
   refine h0.kp hk (λb e e2=>?_)
   obtain⟨c1,q1⟩:=h0.block e
   obtain⟨c2,q2⟩:=zrd h.row e2
   exact zne q1 q2 (by decide) rfl
  ·subst hi
   simp at hx
   rw[hl]at hg
   simp at hg
   subst hx;subst hg
   exact BR.mono (hu.kp hk (λb e e2=>by have h1:=(hu.lt b e).1;have h2:=hsz b e2;omega)) hb
  ·rw[List.getElem?_eq_none (by simp;omega)]at hx;cases hx
 ·have last:∀(i:Nat) x,(lv++[u])[i]?=some x→(i<lv.length∧lv[i]?=some x)∨(i=lv.length∧x=u):=λi x hx=>by
   rcases Nat.lt_trichotomy i lv.length with hi|hi|hi
   ·rw[List.getElem?_append_left hi]at hx;exact Or.inl ⟨hi,hx⟩
   ·subst hi;simp at hx;exact Or.inr ⟨rfl,hx.symm⟩
   ·rw[List.getElem?_eq_none (by simp;omega)]at hx;cases hx
  rcases last i x hx with ⟨h1,h2⟩|⟨h1,h2⟩<;>rcases last j y hy with ⟨h3,h4⟩|⟨h3,h4⟩
  ·exact h.apart i j x y b h2 h4 ex ey
  ·subst h4
   have:=hold i x h2 b ex
   have:=(hu.lt b ey).1
   omega
  ·subst h2
   have:=hold j y h4 b ey
   have:=(hu.lt b ex).1
   omega
  ·omega
def JR (w:World)(fv:Value)(fs:List (List UInt8))(lv:List Value):Prop:=w.ownsRow 0 48 1 fv fs.length lv∧(∀(i:Nat) u f,lv[i]?=some u→fs[i]?=some f→BR 0 w u f)
theorem z4f (fs:List (List UInt8))(k:Nat)(f:List UInt8)(h:fs[k]?=some f):bytesOf (fs.take (k+1))=bytesOf (fs.take k)+f.length:=by
 obtain⟨hk,rfl⟩:=List.getElem?_eq_some_iff.1 h
 rw[List.take_succ_eq_append_getElem hk,zbe]
 simp[bytesOf]
theorem z5i (fs:List (List UInt8))(k:Nat):bytesOf (fs.take k)≤bytesOf fs:=by
 conv=>rhs;rw[← List.take_append_drop k fs]
 rw[zbe];omega
theorem zkj:∀(fs:List (List UInt8)) (n k:Nat) (f:List UInt8),fs[k]?=some f→bytesOf (fs.take k)<n→zgb (fs.take (k+1)) n=zgb (fs.take k) n++[f.take (n-bytesOf (fs.take k))]
 |[],_,_,_,h,_=>by simp at h
 |g::r,n,0,f,h,hn=>by
  simp at h
  subst h
  have:n≠0:=by simp[bytesOf]at hn;omega
  simp[zgb,this,bytesOf]
 |g::r,n,k+1,f,h,hn=>by
  have h':r[k]?=some f:=by simpa using h
  have hb:bytesOf ((g::r).take (k+1))=g.length+bytesOf (r.take k):=by rw[List.take_succ_cons,z2c]
  rw[hb]at hn
  have hn0:n≠0:=by omega
  rw[List.take_succ_cons,List.take_succ_cons]
  show (if n=0 then [] else g.take n::zgb (r.take (k+1)) (n-g.length))=(if n=0 then [] else g.take n::zgb (r.take k) (n-g.length))++_
  rw[if_neg hn0,if_neg hn0,zkj r (n-g.length) k f h' (by omega),z2c]
  rw[List.cons_append,Nat.sub_sub]
theorem zjj:∀(fs:List (List UInt8)) (n k:Nat),n≤bytesOf (fs.take k)→zgb fs n=zgb (fs.take k) n
 |[],_,_,_=>by simp
 |g::r,n,0,h=>by
  have:n=0:=by simpa [bytesOf] using h
  subst this
  simp[zgb]
 |g::r,n,k+1,h=>by
  rw[List.take_succ_cons,z2c]at h
  rw[List.take_succ_cons]
  show (if n=0 then [] else g.take n::zgb r (n-g.length))=(if n=0 then [] else g.take n::zgb (r.take k) (n-g.length))
  rw[zjj r (n-g.length) k (by omega)]
section
variable {R:Ending→World→Prop}
set_option maxRecDepth 20000 in
set_option maxHeartbeats 1000000 in
theorem znk (p o:Nat)(fv:Value)(fs:List (List UInt8))(lv:List Value)(w:World)(c0:w.cell? ⟨p,o,none⟩=some fv)(hJ:JR w fv fs lv)(hl:bytesOf fs≤1000000000)(hfl:fs.length≤1100000)
  (hR:R (.returned (.int .i64 (bytesOf fs:Nat))) w) :
  Calls Tryz.prog 74 #[.pointer (some ⟨p,o,none⟩)] w R:=by
 obtain⟨hrow,hat⟩:=hJ
 have HAT:=ze hat
 have HROW:=ze hrow
 have HR:=ze hR
 have HL:=ze hl
 have hfl':(fs.length:Int)≤1100000:=by omega
 have hlen:lv.length=fs.length:=by simpa using hrow.1
 have HLEN:=ze hlen
 by_cases h0:fs.length=0
 ·have e0:fs=[]:=List.eq_nil_of_length_eq_zero h0
  subst e0
  obtain⟨pf,cap,rfl⟩:=zp hrow
  clear hrow hat hR hl h0 hlen hfl hfl'
  go_enter Tryz.func74,Tryz.ntmps74
  go_wp2_with fail
  go_loop [3,11] (λv3 v11=>v3 = .int .i64 0∧v11 = .int .i64 0) (λ_ _=>0)
  case atStart=>exact⟨rfl,rfl⟩
  case round=>
   obtain⟨rfl,rfl⟩:=hrel
   go_wp2_with fail
   exact HR.out
 ·obtain⟨g,cap,cur,rfl,_,_⟩:=zib hrow (by omega)
  clear hrow hat hR hl h0 hlen
  go_enter Tryz.func74,Tryz.ntmps74
  go_wp2_with fail
  go_loop [3,11] (λv3 v11=>∃k:Nat,k≤fs.length∧v11 = .int .i64 k∧v3 = .int .i64 (bytesOf (fs.take k):Nat)) (λ_ v11=>fs.length-(intOf v11).toNat)
  case atStart=>exact⟨0,Nat.zero_le _,rfl,rfl⟩
  case round=>
   obtain⟨k,hk,rfl,rfl⟩:=hrel
   by_cases hlt:k<fs.length
   ·obtain⟨f,hf⟩:∃f,fs[k]?=some f:=⟨fs[k],List.getElem?_eq_getElem hlt⟩
    obtain⟨u,hu⟩:∃u,lv[k]?=some u:=⟨lv[k]'(by rw[HLEN.out];exact hlt),List.getElem?_eq_getElem (by rw[HLEN.out];exact hlt)⟩
    have hc:=zfe HROW.out k u hu
    obtain⟨pu,capu,rfl⟩:=zp (HAT.out k u f hu hf)
    have HB:=ze (z4f fs k f hf)
    have hb1:bytesOf (fs.take k)+f.length≤1000000000:=by have:=z5i fs (k+1);have:=HL.out;have:=HB.out;omega
    have hb2:(bytesOf (fs.take k):Int)+f.length≤1000000000:=by omega
    generalize bytesOf (fs.take k)=S at hb1 hb2 HB ⊢
    clear hf hu
    go_wp2_with fail
    go_round
    case rel=>exact⟨k+1,by omega,by go_num,by rw[HB.out];rfl⟩
    case measure=>simp[intOf];omega
   ·have hk':k=fs.length:=by omega
    subst hk'
    rw[List.take_length]
    go_wp2_with fail
    exact HR.out
end
end
section
open Go.RowKit
theorem zan (n:Nat):b8 (u8 n) = .int .u8 ((n % 256:Nat):Int):=by unfold b8;rw[z2d]
theorem zsv (s:ByteArray)(k:Nat)(h:k<s.size):(zac s).take (k+1+1)=(zac s).take (k+1)++[s[k]]:=by
 unfold zac
 rw[List.take_succ_cons,List.take_succ_cons,List.take_succ_eq_append_getElem (by simpa using h)]
 rfl
section
variable {R:Ending→World→Prop}
set_option maxRecDepth 20000 in
set_option maxHeartbeats 400000 in
theorem zzu (n:Nat)(w:World)(hn:n<4294967296)
  (hR:∀v w',BR w.heap.size w' v (fourB n)→Kp (λ_=>False) w w'→R (.returned v) w') :
  Calls Tryz.prog 161 #[.int .i64 n] w R:=by
 have h1:=z7e w #[b8 (u8 n),b8 (u8 (n / 256)),b8 (u8 (n / 65536)),b8 (u8 (n / 16777216))] (fourB n) rfl (by simp[zmb])
 have HR:=ze (hR _ _ h1 (Kp.alloc _ _ _))
 have hn':(n:Int)<4294967296:=by omega
 clear hR h1
 go_enter Tryz.func161,Tryz.ntmps161
 go_wp2
 rw[zan,zan,zan,zan]at HR
 exact HR.out
set_option maxRecDepth 20000 in
set_option maxHeartbeats 400000 in
theorem z82 (n:Int)(w:World)(h0:0≤n)(h1:n≤10000)(hR:∀a b c d,[Value.int .u8 72,.int .u8 a,.int .u8 b,.int .u8 c,.int .u8 d]=(zxb n.toNat).map b8→R (.returned (.slice (some ⟨w.heap.size,0,none⟩) 4 4)) (w.alloc (.cells #[.int .u8 a,.int .u8 b,.int .u8 c,.int .u8 d] 5))) :
  Calls Tryz.prog 161 #[.int .i64 n] w R:=by
 obtain⟨m,rfl⟩:∃m:Nat,n=m:=⟨n.toNat,by omega⟩
 have e:[Value.int .u8 72,.int .u8 ((m % 256:Nat):Int),.int .u8 ((m / 256 % 256:Nat):Int),.int .u8 ((m / 65536 % 256:Nat):Int),.int .u8 ((m / 16777216 % 256:Nat):Int)]=(zxb m).map b8:=by
  simp only[zxb,fourB,List.map_cons,List.map_nil,zan]
  rfl
 have HR:=ze (hR _ _ _ _ e)
 clear hR e
 go_enter Tryz.func161,Tryz.ntmps161
 go_wp2
 exact HR.out
set_option maxRecDepth 20000 in
set_option maxHeartbeats 1000000 in
theorem z50 (s:ByteArray)(w:World)(hs:s.size≤255)(hR:∀v w',BR w.heap.size w' v (zac s)→Kp (λ_=>False) w w'→R (.returned v) w') :
  Calls Tryz.prog 201 #[.string s] w R:=by
 have HR:=ze hR
 have HS:=ze hs
 have hs':(s.size:Int)≤255:=by omega
 have h0:=z7e w #[.int .u8 (s.size:Int)] [u8 s.size] (by simp[b8,z2d];omega) (by simp)
 have H0:=ze h0
 clear hR hs h0
 go_enter Tryz.func201,Tryz.ntmps201
 go_wp2
 go_loopw [3,4] (λv3 v4 wr=>∃k:Nat,k≤s.size∧v4 = .int .i64 k∧Kp (λ_=>False) w wr∧BR w.heap.size wr v3 ((zac s).take (k+1))) (λ_ v4 _=>s.size-(intOf v4).toNat)
 case atStart=>exact⟨0,Nat.zero_le _,rfl,Kp.alloc _ _ _,H0.out⟩
 case round=>
  obtain⟨k,hk,rfl,hkp,hrow⟩:=hrel
  have HK:=ze hkp
  have HB:=ze hrow
  have hlen:((zac s).take (k+1)).length=k+1:=by rw[List.length_take,zud];omega
  have HLEN:=ze hlen
  obtain⟨pu,cu,rfl⟩:=zp hrow
  rw[hlen]at HB ⊢
  clear hkp hrow hlen
  by_cases hlt:k<s.size
  ·have hlt':(k:Int)<s.size:=by omega
   have HT:=ze (zsv s k hlt)
   have hnw:=z7e wr #[.int .u8 s[k].toNat] [s[k]] (by simp[b8]) (by simp)
   have HNW:=ze hnw
   clear hnw
   go_wp2_with (first
    |(at_builtin;refine zsb _ rfl _ _ rfl w.heap.size _ ((zac s).take (k+1)) rfl (HB.out.kept (Kp.alloc _ _ _)) _ [s[k]] rfl HNW.out.rd (by simp) (by have:=HLEN.out;have:=HS.out;simp only[List.length_cons,List.length_nil];omega) (by have:=HK.out.size;simp;omega) ?_;intro v5 w5 hb5 hk5 _;have HB5:=ze hb5;have HK5:=ze hk5;clear hb5 hk5)
    |go_in)
   go_roundw
   case rel=>
    refine⟨k+1,by omega,by go_num,?_,by rw[HT.out];exact HB5.out⟩
    exact HK.out.trans ((Kp.alloc (λb=>(Value.slice pu (k+1) cu).ownBlock=some b) wr _).trans HK5.out (λ_ _ h=>h)) (λb hb e=>by have:=(HB.out.lt b e).1;omega)
   case measure=>simp[intOf];omega
  ·have hke:k=s.size:=by omega
   subst hke
   have hfin:BR w.heap.size wr (.slice pu (s.size+1) cu) (zac s):=by
    have:=HB.out
    rw[List.take_of_length_le (by rw[zud];omega)]at this
    exact this
   have HF:=ze (HR.out _ _ hfin HK.out)
   clear hfin
   go_wp2
   exact HF.out
set_option maxRecDepth 20000 in
set_option maxHeartbeats 1000000 in
theorem z72 (key:ByteArray)(t:Int)(gone:Bool)(s:ByteArray)(w:World)(hs:s.size≤255)(hR:∀v w',BR w.heap.size w' v (zlg (s,gone))→Kp (λ_=>False) w w'→R (.returned v) w') :
  Calls Tryz.prog 202 #[.agg #[.string key,.int .i64 t,.bool gone,.string s]] w R:=by
 have HR:=ze hR
 have HS:=ze hs
 clear hR hs
 have sA:(w.alloc (.cells #[.string key,.int .i64 t,.bool gone,.string s] 193)).heap.size=w.heap.size+1:=by simp
 cases gone
 ·have h0:=zml (w.alloc (.cells #[.string key,.int .i64 t,.bool false,.string s] 193)) (w.heap.size+1) sA #[.int .u8 0] [0] (by simp[b8]) (by simp)
  have H0:=ze h0
  have hk0:Hid (Kp (λ_=>False) w ((w.alloc (.cells #[.string key,.int .i64 t,.bool false,.string s] 193)).alloc (.cells #[.int .u8 0] 5))):=(Kp.alloc _ _ _).trans (Kp.alloc _ _ _) (λ_ _ h=>h)
  clear h0 sA
  go_enter Tryz.func202,Tryz.ntmps202
  go_wp2_with (first
   |(go_at_call 201;refine z50 s _ HS.out (λv2 w2 hb2 hk2=>?_);obtain⟨g2,c2,rfl⟩:=hb2.form (by simp[zac]);have HB2:=ze hb2;have HK2:=ze hk2;clear hb2 hk2)
   |(at_builtin;refine zsb _ rfl _ _ rfl (w.heap.size+1) _ [0] rfl (H0.out.kept HK2.out) _ (zac s) rfl HB2.out.rd (by simp[zac]) (by rw[zud];have:=HS.out;simp;omega) (by have:=(hk0.out.trans HK2.out (λ_ _ h=>h)).size;have h:=HK2.out.size;simp at h;omega) ?_;intro v5 w5 hb5 hk5 _;have HB5:=ze hb5;have HK5:=ze hk5;clear hb5 hk5)
   |go_in)
  refine HR.out v5 w5 (BR.mono HB5.out (by omega)) ((hk0.out.trans HK2.out (λ_ _ h=>h)).trans HK5.out (λb hb e=>?_))
  have:=((H0.out.kept HK2.out).lt b e).1
  omega
 ·have h0:=zml (w.alloc (.cells #[.string key,.int .i64 t,.bool true,.string s] 193)) (w.heap.size+1) sA #[.int .u8 1] [1] (by simp[b8]) (by simp)
  have HF:=ze (HR.out _ _ (BR.mono h0 (by omega)) ((Kp.alloc _ _ _).trans (Kp.alloc _ _ _) (λ_ _ h=>h)))
  clear h0 sA
  go_enter Tryz.func202,Tryz.ntmps202
  go_wp2
  exact HF.out
end
end
section
open Go.RowKit
theorem zmq (a b:Nat)(ha:a<4294967296)(hb:b<4294967296):bits .xor .i64 (a:Int) (b:Int)=((a ^^^ b:Nat):Int):=by
 have hx:a ^^^ b<2 ^ 32:=Nat.xor_lt_two_pow (by omega) (by omega)
 have h1:(BitVec.ofInt 64 (a:Int)).toNat=a:=by rw[BitVec.ofInt_natCast,BitVec.toNat_ofNat];exact Nat.mod_eq_of_lt (by omega)
 have h2:(BitVec.ofInt 64 (b:Int)).toNat=b:=by rw[BitVec.ofInt_natCast,BitVec.toNat_ofNat];exact Nat.mod_eq_of_lt (by omega)
 show IntKind.i64.wrap ((BitVec.ofInt 64 (a:Int) ^^^ BitVec.ofInt 64 (b:Int)).toNat:Int)=_
 rw[BitVec.toNat_xor,h1,h2]
 exact IntWalk.i64_in _ (by omega)
def znl:Nat→Nat→Nat
 |0,x=>x
 |n+1,x=>z6c (znl n x)
theorem zrq {x:Nat}(h:x<4294967296):∀n,znl n x<4294967296
 |0=>h
 |n+1=>zpe (zrq h n)
section
variable {R:Ending→World→Prop}
set_option maxRecDepth 20000 in
set_option maxHeartbeats 2000000 in
theorem z5y (v:Value)(bs:List UInt8)(w:World)(hl:bs.length≤100000000)(hne:bs≠[])(h:RdB w v bs)(hR:∀v' w',BR w.heap.size w' v' (fourB (z5c bs))→Kp (λ_=>False) w w'→R (.returned v') w') :
  Calls Tryz.prog 170 #[v] w R:=by
 obtain⟨p,cap,rfl,hc0⟩:=h
 obtain⟨g,o,rfl,hc⟩:=hc0 hne
 have HC:=ze hc
 have HR:=ze hR
 have HL:=ze hl
 have hl':(bs.length:Int)≤100000000:=by omega
 clear hc0 hc hR hl hne
 go_enter Tryz.func170,Tryz.ntmps170
 go_wp2
 go_loop [3,4] (λs i=>∃k:Nat,k≤bs.length∧i = .int .i64 k∧s = .int .i64 (z5d ((bs.take k).map UInt8.toNat):Nat)) (λ_ i=>bs.length-(intOf i).toNat)
 case atStart=>exact⟨0,Nat.zero_le _,rfl,rfl⟩
 case round=>
  obtain⟨k,hk,rfl,rfl⟩:=hrel
  have hS0:=zdi (bs.take k)
  by_cases hlt:k<bs.length
  ·have hlt':(k:Int)<bs.length:=by omega
   have hck:=HC.out k hlt
   have HT:Hid (z5d ((bs.take (k+1)).map UInt8.toNat)=zfg (z5d ((bs.take k).map UInt8.toNat)) (bs.getD k 0).toNat):=by
    show _=_
    rw[zzn bs k hlt];simp[z5d]
   generalize z5d ((bs.take k).map UInt8.toNat)=S at hS0 HT ⊢
   generalize bs.getD k 0=B at hck HT
   unfold b8 at hck
   have hB:=B.toNat_lt
   generalize B.toNat=b at hck HT hB
   have h1:=zmq S b hS0 (by omega)
   have hX:S ^^^ b<4294967296:=Nat.xor_lt_two_pow (n:=32) hS0 (by omega)
   have hb':(b:Int)<256:=by omega
   unfold zfg at HT
   generalize S ^^^ b=X at h1 hX HT
   clear hS0 hB
   go_wp2
   clear h1 hck
   go_loop [3,5,6] (λs j _=>∃m:Nat,m≤8∧j = .int .i64 m∧s = .int .i64 (znl m X:Nat)) (λ_ j _=>8-(intOf j).toNat)
   case atStart=>exact⟨0,Nat.zero_le _,rfl,rfl⟩
   case round=>
    obtain⟨m,hm,rfl,rfl⟩:=hrel
    have hY:=zrq hX m
    by_cases hm8:m<8
    ·have hm8':(m:Int)<8:=by omega
     have HIT:Hid (znl (m+1) X=z6c (znl m X)):=rfl
     generalize znl m X=Y at hY HIT ⊢
     have hY':(Y:Int)<4294967296:=by omega
     by_cases hodd:Y % 2=1
     ·have e1:((Y:Int) % 2 == 1)=true:=by simp;omega
      have e2:Hid (bits .xor .i64 ((Y:Int) / 2) 3988292384=(((Y / 2) ^^^ 3988292384:Nat):Int)):=by
       have:=zmq (Y / 2) 3988292384 (by omega) (by omega)
       exact this
      have HB:Hid (z6c Y=(Y / 2) ^^^ 3988292384):=by show _=_;unfold z6c;rw[if_pos hodd]
      clear hodd
      go_wp2
      go_round
      case rel=>exact⟨m+1,by omega,by go_num,by rw[HIT.out,HB.out,← e2.out]⟩
      case measure=>simp[intOf];omega
     ·have e1:((Y:Int) % 2 == 1)=false:=by simp;omega
      have HB:Hid (z6c Y=Y / 2):=by show _=_;unfold z6c;rw[if_neg hodd]
      clear hodd
      go_wp2
      go_round
      case rel=>exact⟨m+1,by omega,by go_num,by rw[HIT.out,HB.out];rfl⟩
      case measure=>simp[intOf];omega
    ·have hm':m=8:=by omega
     subst hm'
     go_wp2
     go_round
     case rel=>exact⟨k+1,by omega,by go_num,by rw[HT.out];rfl⟩
     case measure=>simp[intOf];omega
  ·have hk':k=bs.length:=by omega
   subst hk'
   rw[List.take_length]at hS0 ⊢
   have HS:Hid (((z5c bs:Nat):Int)=4294967295-((z5d (bs.map UInt8.toNat):Nat):Int)):=by show _=_;unfold z5c;omega
   have hsl:=zph bs
   have HSL:=ze hsl
   have hw:IntKind.i64.wrap (4294967295-((z5d (bs.map UInt8.toNat):Nat):Int))=((z5c bs:Nat):Int):=by rw[← HS.out];exact IntWalk.i64_in _ (by omega)
   generalize z5d (bs.map UInt8.toNat)=S at hS0 HS hw ⊢
   generalize z5c bs=T at HS HSL hsl hw HR
   have hS':(S:Int)<4294967296:=by omega
   have e0:(4294967295:Int)-S=T:=HS.out.symm
   clear hsl
   go_wp2_with (first
    |(go_at_call 161;refine zzu T _ HSL.out (λv2 w2 hb2 hk2=>?_);obtain⟨g2,c2,rfl⟩:=hb2.form (by simp[fourB]);have HF:=ze (HR.out _ _ hb2 hk2);clear hb2 hk2)
    |go_in)
   exact HF.out
end
end
section
open Go.RowKit
def toW (y:YV):ByteArray × ByteArray × Bool:=(y.key,y.s,y.gone)
def zyf (t n:Nat)(ws:List (ByteArray × ByteArray × Bool))(k:Nat):List UInt8:=67::(fourB t++(u8 n::(ws.take k).flatMap z9b))
theorem zkq (t n:Nat)(ws:List (ByteArray × ByteArray × Bool))(k:Nat)(h:∀x∈ws,x.1.size≤8∧x.2.1.size≤20):(zyf t n ws k).length≤6+k*31:=by
 have h1:=zfi z9b 31 (ws.take k) (λx hx=>Nat.le_trans (zwg x) (by have:=h x (List.mem_of_mem_take hx);omega))
 have h2:(ws.take k).length*31≤k*31:=Nat.mul_le_mul_right _ (by rw[List.length_take];omega)
 simp only[zyf,List.length_cons,List.length_append,zmb]
 omega
theorem zku (t n:Nat)(ws:List (ByteArray × ByteArray × Bool))(k:Nat)(x:ByteArray × ByteArray × Bool)(h:ws[k]?=some x):zyf t n ws (k+1)=(zyf t n ws k++zac x.1)++zlg x.2:=by
 obtain⟨hk,rfl⟩:=List.getElem?_eq_some_iff.1 h
 unfold zyf
 rw[List.take_succ_eq_append_getElem hk,List.flatMap_append]
 simp only[List.flatMap_cons,List.flatMap_nil,List.append_nil,z9b,List.cons_append,List.append_assoc]
section
variable {R:Ending→World→Prop}
set_option maxRecDepth 20000 in
set_option maxHeartbeats 2000000 in
theorem z13 (t:Nat)(l:List YV)(g cap:Nat)(w:World)(h1:t<4294967296)(hl:l.length≤10)(hv:VS w (.slice (some ⟨g,0,none⟩) l.length cap) l g cap)(hs:∀y∈l,y.key.size≤8∧y.s.size≤20)
  (hR:∀v w',BR w.heap.size w' v (zbb t (l.map toW))→Kp (λ_=>False) w w'→R (.returned v) w') :
  Calls Tryz.prog 160 #[.int .i64 t,.slice (some ⟨g,0,none⟩) l.length cap] w R:=by
 have HR:=ze hR
 have HV:=ze hv
 have HS:=ze hs
 have HL:=ze hl
 have H1:=ze h1
 have hl':(l.length:Int)≤10:=by omega
 have h0:=z7e w #[.int .u8 67] [67] (by simp[b8]) (by simp)
 have H0:=ze h0
 have HLW:Hid (∀k,(zyf t l.length (l.map toW) k).length≤6+k*31):=λk=>zkq t l.length (l.map toW) k (λx hx=>by
  obtain⟨y,hy,rfl⟩:=List.mem_map.1 hx
  exact hs y hy)
 clear hR hv hs hl h1 h0
 go_enter Tryz.func160,Tryz.ntmps160
 go_wp2_with (first
  |(go_at_call 161;refine zzu t _ H1.out (λv2 w2 hb2 hk2=>?_);obtain⟨g2,c2,rfl⟩:=hb2.form (by simp[fourB]);have HB2:=ze hb2;have HK2:Hid (Kp (λ_=>False) w w2):=(Kp.alloc (λ_=>False) w _).trans hk2 (λ_ _ h=>h);have HB1:=ze (H0.out.kept hk2);clear hb2 hk2)
  |(at_builtin;refine zsb _ rfl _ _ rfl w.heap.size _ [67] rfl HB1.out _ (fourB t) rfl HB2.out.rd (by simp[fourB]) (by simp[zmb]) HK2.out.size ?_;intro v3 w3 hb3 hk3 _;obtain⟨g3,c3,rfl⟩:=hb3.form (by simp);have HB3:=ze hb3;have HK3:Hid (Kp (λ_=>False) w w3):=HK2.out.trans hk3 (λb hb e=>by have:=(HB1.out.lt b e).1;omega);have HNW:=ze (z7e w3 #[.int .u8 (l.length:Int)] [u8 l.length] (by have:=HL.out;simp[b8,z2d];omega) (by simp));clear hb3 hk3 HB1)
  |(at_builtin;refine zsb _ rfl _ _ rfl w.heap.size _ ([67]++fourB t) rfl (HB3.out.kept (Kp.alloc _ _ _)) _ [u8 l.length] rfl HNW.out.rd (by simp) (by simp[zmb]) (by have:=HK3.out.size;simp;omega) ?_;intro v4 w4 hb4 hk4 _;have HB4:=ze hb4;have HK4:Hid (Kp (λ_=>False) w w4):=HK3.out.trans ((Kp.alloc _ _ _).trans hk4 (λ_ _ h=>h)) (λb hb e=>by have:=((HB3.out.kept (Kp.alloc (λ_=>False) w3 (.cells #[.int .u8 (l.length:Int)] 5))).lt b e).1;omega);clear hb4 hk4)
  |go_in)
 go_loopw [5,6] (λv5 v6 wr=>∃k:Nat,k≤l.length∧v6 = .int .i64 k∧Kp (λ_=>False) w wr∧BR w.heap.size wr v5 (zyf t l.length (l.map toW) k)) (λ_ v6 _=>l.length-(intOf v6).toNat)
 case atStart=>
  refine⟨0,Nat.zero_le _,rfl,HK4.out,?_⟩
  have:=HB4.out
  simpa [zyf] using this
 case round=>
  obtain⟨k,hk,rfl,hkp,hrow⟩:=hrel
  have HK:=ze hkp
  have HB:=ze hrow
  obtain⟨pu,cu,rfl⟩:=hrow.form (by simp[zyf])
  clear hrow
  by_cases hlt:k<l.length
  ·have hlt':(k:Int)<l.length:=by omega
   have hVr:=HV.out.kept hkp
   have hc0:=hVr.c0 k hlt
   obtain⟨y,hy⟩:∃y,l[k]=y:=⟨_,rfl⟩
   have HSK:=ze (hy ▸ HS.out l[k] (List.getElem_mem _))
   have HSU:=ze (zku t l.length (l.map toW) k (toW y) (by rw[List.getElem?_map,List.getElem?_eq_getElem hlt,hy];rfl))
   have HLT:=ze hlt
   rw[hy]at hc0
   have HY:=ze hy
   have HLK:=ze (HLW.out k)
   generalize zyf t l.length (l.map toW) k=bk at HB HSU HLK ⊢
   clear hkp hVr hy
   go_wp2_with (first
    |(go_at_call 201;refine z50 y.key _ (by have h:=HSK.out.1;omega) (λv3 w3 hb3 hk3=>?_);obtain⟨g3,c3,rfl⟩:=hb3.form (by simp[zac]);have HX3:=ze hb3;have HK3':=ze hk3;clear hb3 hk3)
    |(at_builtin;refine zsb _ rfl _ _ rfl w.heap.size _ bk rfl (HB.out.kept HK3'.out) _ (zac y.key) rfl HX3.out.rd (by simp[zac]) (by rw[zud];have:=HLK.out;have:=HSK.out.1;have:=HL.out;have:=HLT.out;omega) (by have:=HK3'.out.size;have:=HK.out.size;omega) ?_;intro v4 w4 hb4 hk4 _;obtain⟨g4,c4,rfl⟩:=hb4.form (by simp[zac]);have HX4:Hid (BR w.heap.size w4 (.slice (some ⟨g4,0,none⟩) (bk.length+(zac y.key).length) c4) (bk++zac y.key)):=(by rw[← List.length_append];exact hb4);have HKA:Hid (Kp (λ_=>False) w w4):=(HK.out.trans HK3'.out (λ_ _ h=>h)).trans hk4 (λb hb e=>by have:=((HB.out.kept HK3'.out).lt b e).1;omega);have hV4:=HV.out.kept HKA.out;have a0:=hV4.c0 k HLT.out;have a1:=hV4.c1 k HLT.out;have a2:=hV4.c2 k HLT.out;have a3:=hV4.c3 k HLT.out;rw[HY.out]at a0 a1 a2 a3;clear hb4 hk4 hV4 HX3)
    |(go_at_call 202;refine z72 y.key y.t y.gone y.s _ (by have h:=HSK.out.2;omega) (λv5 w5 hb5 hk5=>?_);obtain⟨g5,c5,rfl⟩:=hb5.form (by unfold zlg;split<;>simp);have HX5:=ze hb5;have HK5:=ze hk5;clear hb5 hk5)
    |(at_builtin;refine zsb _ rfl _ _ rfl w.heap.size _ (bk++zac y.key) rfl (HX4.out.kept HK5.out) _ (zlg (y.s,y.gone)) rfl HX5.out.rd (by unfold zlg;split<;>simp) (by rw[List.length_append,zud];have:=z2j (y.s,y.gone);have:=HLK.out;have:=HSK.out;have:=HL.out;have:=HLT.out;simp only at *;omega) (by have:=HK5.out.size;have:=HKA.out.size;omega) ?_;intro v6 w6 hb6 hk6 _;have HX6:=ze hb6;have HK6:Hid (Kp (λ_=>False) w w6):=(HKA.out.trans HK5.out (λ_ _ h=>h)).trans hk6 (λb hb e=>by have:=((HX4.out.kept HK5.out).lt b e).1;omega);clear hb6 hk6)
    |go_in)
   go_roundw
   case rel=>exact⟨k+1,by omega,by go_num,HK6.out,by rw[HSU.out];exact HX6.out⟩
   case measure=>simp[intOf];omega
  ·have hke:k=l.length:=by omega
   subst hke
   have hfin:BR w.heap.size wr (.slice (some ⟨pu,0,none⟩) (zyf t l.length (l.map toW) l.length).length cu) (zbb t (l.map toW)):=by
    have h:=HB.out
    have e:zyf t l.length (l.map toW) l.length=zbb t (l.map toW):=by unfold zyf zbb;rw[List.take_of_length_le (by simp)];simp
    rw[e]at h ⊢
    exact h
   have HF:=ze (HR.out _ _ hfin HK.out)
   generalize (zyf t l.length (l.map toW) l.length).length=nn at HF ⊢
   clear hfin
   go_wp2_with fail
   exact HF.out
theorem z62 (t:Int)(l:List YV)(g cap:Nat)(w:World)(h0:0≤t)(h1:t≤10000)(hl:l.length≤10)(hv:VS w (.slice (some ⟨g,0,none⟩) l.length cap) l g cap)(hs:∀y∈l,y.key.size≤8∧y.s.size≤20)
  (hR:∀v w' n,n+1=(zbb t.toNat (l.map toW)).length→BR w.heap.size w' v (zbb t.toNat (l.map toW))→Kp (λ_=>False) w w'→R (.returned v) w') :
  Calls Tryz.prog 160 #[.int .i64 t,.slice (some ⟨g,0,none⟩) l.length cap] w R:=by
 obtain⟨m,rfl⟩:∃m:Nat,t=m:=⟨t.toNat,by omega⟩
 exact z13 m l g cap w (by omega) hl hv hs (λv w' hb hk=>hR v w' _ (by simp[zbb];rfl) hb hk)
set_option maxRecDepth 20000 in
set_option maxHeartbeats 1000000 in
theorem zjw (v:Value)(body:List UInt8)(w:World)(hl:body.length≤60000)(hne:body≠[])(h:RdB w v body)(hR:∀v' w',BR w.heap.size w' v' (zqb body)→Kp (λ_=>False) w w'→R (.returned v') w') :
  Calls Tryz.prog 166 #[v] w R:=by
 obtain⟨p,cap,rfl,hc⟩:=h
 have HRD:Hid (RdB w (.slice p body.length cap) body):=⟨p,cap,rfl,hc⟩
 have HR:=ze hR
 have HL:=ze hl
 have HNE:=ze hne
 have hl':(body.length:Int)≤60000:=by omega
 have h0:=z7e w #[.int .u8 ((body.length:Int) % 256),.int .u8 ((body.length:Int) / 256)] [u8 body.length,u8 (body.length / 256)] (by simp[b8,z2d];omega) (by simp)
 have H0:=ze h0
 have HFR:Hid (zqb body=([u8 body.length,u8 (body.length / 256)]++body)++fourB (z5c ([u8 body.length,u8 (body.length / 256)]++body))):=rfl
 clear hc hR hl hne h0
 generalize zqb body=fr at HR HFR
 go_enter Tryz.func166,Tryz.ntmps166
 go_wp2_with (first
  |(at_builtin;refine zsb _ rfl _ _ rfl w.heap.size _ [u8 body.length,u8 (body.length / 256)] rfl H0.out _ body rfl (HRD.out.kept (Kp.alloc _ _ _)) HNE.out (by have:=HL.out;simp;omega) (by simp) ?_;intro v3 w3 hb3 hk3 _;obtain⟨g3,c3,rfl⟩:=hb3.form (by simp);have HB3:=ze hb3;have HK3:Hid (Kp (λ_=>False) w w3):=(Kp.alloc (λ_=>False) w _).trans hk3 (λb hb e=>by have:=(H0.out.lt b e).1;omega);clear hb3 hk3)
  |(go_at_call 170;refine z5y _ ([u8 body.length,u8 (body.length / 256)]++body) _ (by have:=HL.out;simp;omega) (by simp) HB3.out.rd (λv4 w4 hb4 hk4=>?_);obtain⟨g4,c4,rfl⟩:=hb4.form (by simp[fourB]);have HB4:=ze hb4;have HK4:=ze hk4;clear hb4 hk4)
  |(at_builtin;refine zsb _ rfl _ _ rfl w.heap.size _ ([u8 body.length,u8 (body.length / 256)]++body) rfl (HB3.out.kept HK4.out) _ _ rfl HB4.out.rd (by simp[fourB]) (by have:=HL.out;simp[zmb];omega) (HK3.out.trans HK4.out (λ_ _ h=>h)).size ?_;intro v5 w5 hb5 hk5 _;have HF:=ze (HR.out v5 w5 (by rw[HFR.out];exact hb5) ((HK3.out.trans HK4.out (λ_ _ h=>h)).trans hk5 (λb hb e=>by have:=((HB3.out.kept HK4.out).lt b e).1;omega)));clear hb5 hk5)
  |go_in)
 exact HF.out
set_option maxRecDepth 20000 in
set_option maxHeartbeats 1000000 in
theorem zmm (n:Nat)(w:World)(hn:n<4294967296)(hR:∀v' w',BR w.heap.size w' v' (zoc n)→Kp (λ_=>False) w w'→R (.returned v') w') :
  Calls Tryz.prog 165 #[.int .i64 n] w R:=by
 have HR:=ze hR
 have HN:=ze hn
 have h0:=z7e w #[.int .u8 80,.int .u8 76,.int .u8 49] [80,76,49] (by simp[b8]) (by simp)
 have H0:=ze h0
 have HFR:Hid (zoc n=([80,76,49]++fourB n)++fourB (z5c ([80,76,49]++fourB n))):=rfl
 clear hR hn h0
 generalize zoc n=fr at HR HFR
 go_enter Tryz.func165,Tryz.ntmps165
 go_wp2_with (first
  |(go_at_call 161;refine zzu n _ HN.out (λv2 w2 hb2 hk2=>?_);obtain⟨g2,c2,rfl⟩:=hb2.form (by simp[fourB]);have HB2:=ze hb2;have HK2:Hid (Kp (λ_=>False) w w2):=(Kp.alloc (λ_=>False) w _).trans hk2 (λ_ _ h=>h);have HB1:=ze (H0.out.kept hk2);clear hb2 hk2)
  |(at_builtin;refine zsb _ rfl _ _ rfl w.heap.size _ [80,76,49] rfl HB1.out _ (fourB n) rfl HB2.out.rd (by simp[fourB]) (by simp[zmb]) HK2.out.size ?_;intro v3 w3 hb3 hk3 _;obtain⟨g3,c3,rfl⟩:=hb3.form (by simp);have HB3:=ze hb3;have HK3:Hid (Kp (λ_=>False) w w3):=HK2.out.trans hk3 (λb hb e=>by have:=(HB1.out.lt b e).1;omega);clear hb3 hk3 HB1)
  |(go_at_call 170;refine z5y _ ([80,76,49]++fourB n) _ (by simp[zmb]) (by simp) HB3.out.rd (λv4 w4 hb4 hk4=>?_);obtain⟨g4,c4,rfl⟩:=hb4.form (by simp[fourB]);have HB4:=ze hb4;have HK4:=ze hk4;clear hb4 hk4)
  |(at_builtin;refine zsb _ rfl _ _ rfl w.heap.size _ ([80,76,49]++fourB n) rfl (HB3.out.kept HK4.out) _ _ rfl HB4.out.rd (by simp[fourB]) (by simp[zmb]) (HK3.out.trans HK4.out (λ_ _ h=>h)).size ?_;intro v5 w5 hb5 hk5 _;have HF:=ze (HR.out v5 w5 (by rw[HFR.out];exact hb5) ((HK3.out.trans HK4.out (λ_ _ h=>h)).trans hk5 (λb hb e=>by have:=((HB3.out.kept HK4.out).lt b e).1;omega)));clear hb5 hk5)
  |go_in)
 exact HF.out
end
end
end Go.Proofs.YthbdpfccfcceiaaGreatDoor
