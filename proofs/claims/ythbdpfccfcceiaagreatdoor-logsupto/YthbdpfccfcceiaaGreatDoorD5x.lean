/-
  Of the proof of logsUpto_card.
-/
import Derived.Test.YthbdpfccfcceiaaGreatDoorD3x
import Derived.Test.YthbdpfccfcceiaaGreatDoorX2x
import Derived.Lib.SlBytesConst
namespace Go.Proofs.YthbdpfccfcceiaaGreatDoor
section
open Go.RowKit Go.Lib
theorem zg {w:World}{b:Nat}{cs:Array Value}{e:TypeId}{fz:Nat × Nat}(h:w.heap[b]?=some (.cells cs e fz))(i:Nat):w.cell? ⟨b,i,none⟩=cs[i]?:=by simp[World.cell?,h]
theorem zyt:(Tryz.prog.info? 48).map (λi=>(i.zero,i.size,i.bytes))=some (some (.slice none 0 0),1,24):=by kernel_rfl
theorem zs0 {ops:Array Oper}{rest:List Oper}{o:Oper}{a:Act}{Q:Exit→Act→World→Prop}(w:World)(hgd:o.guard=none)(s x:Operand)
  (ho:o.op = .call { callee:=.builtin .append,args:=#[s,x],argTypes:=#[48,48] })
  (g:Nat) (bs:List UInt8) (hs:a.eval s = .slice (some ⟨g,0,none⟩) bs.length bs.length) (hc:∀j u,(bs.map b8)[j]?=some u→w.cell? ((⟨g,0,none⟩:Addr).add j)=some u) (xv:Value) (news:List UInt8) (hx:a.eval x=xv) (hr:RdB w xv news) (hne:news≠[])
  (hl:bs.length+news.length≤1000000000)
  (h:∀v' w',BR w.heap.size w' v' (bs++news)→Kp (λ_=>False) w w'→wpList Tryz.prog ops Q rest (a.put o.dst v') w') :
  wpList Tryz.prog ops Q (o::rest) a w:=by
 obtain⟨i0,hi,hz0,hz1,hz2⟩:=info_parts zon
 obtain⟨g2,of,cap,rfl,hc2⟩:=hr.form hne
 have hpos:=List.length_pos_iff.2 hne
 have hrun:=run_append_grow (P:=Tryz.prog) w 48 o.type 5 i0 (.int .u8 0) Tryz.underlying48 hi hz0 ⟨g,0,none⟩ bs.length bs.length (bs.map b8) (by rw[hz1];simp) hc ⟨g2,of,none⟩ news.length cap (news.map b8) (by rw[hz1];simp) hc2 (by omega) (by omega) (by rw[hz2];exact growslice_fits (by omega) (by omega))
 refine wpList_plain hgd λK hK=>?_
 unfold Oper.wp execOp
 simp only[ho,resolve,invoke,builtin,Sem.run_bind,Sem.run_pure,Result.andThen_ok,List.map_toArray,List.map_cons,List.map_nil,hs,hx,hrun]
 refine hK _ _ (h _ _ ?_ ?_)
 ·have hge:=grownCap_ge w (bs.length+news.length) bs.length 5
  have hcm:grownCap w (bs.length+news.length) bs.length 5≤maxLen:=grownCap_le_maxLen w _ _ _ (by unfold maxLen;omega)
  unfold BR
  rw[List.length_append,List.map_append]
  refine⟨by simp,Or.inr ⟨w.heap.size,_,_,rfl,Nat.le_refl _,heap_alloc_new w.drew _,hge,hcm,?_,?_⟩⟩
  ·have hz3:(Value.int IntKind.u8 0).cells.size=1:=rfl
   simp only[Array.size_append,List.size_toArray,size_zeroCells,hz3,List.length_map]
   omega
  ·simp only[Array.toList_append]
   rw[List.take_append_of_le_length (by simp),List.take_of_length_le (by simp)]
 ·exact (Kp.drew (λ_=>False) w).trans (Kp.alloc (λ_=>False) _ _) (λ_ _ h=>h)
section
variable {R:Ending→World→Prop}
set_option maxRecDepth 20000 in
set_option maxHeartbeats 1000000 in
theorem z8m (g:Nat)(bs:List UInt8)(n:Nat)(w:World)(hc:∀j u,(bs.map b8)[j]?=some u→w.cell? ((⟨g,0,none⟩:Addr).add j)=some u)(hn:n<4294967296)(hl:bs.length≤100000000)
  (hR:∀v' w',BR w.heap.size w' v' (bs++fourB n)→Kp (λ_=>False) w w'→R (.returned v') w') :
  Calls Tryz.prog 140 #[.slice (some ⟨g,0,none⟩) bs.length bs.length,.int .u32 n] w R:=by
 have HR:=ze hR
 have HC:=ze hc
 have HL:=ze hl
 clear hR hc hl
 go_enter Tryz.func140,Tryz.ntmps140
 go_wp2_with (first
  |(at_builtin;refine zs0 _ rfl _ _ rfl g bs rfl (λj u hj=>zeh (HC.out j u hj) _) _ (fourB n) rfl (BR.rd (z7e w _ (fourB n) (by rw[z3q,show ((n:Int) / 16777216 % 256)=(n:Int) / 16777216 by omega]) (by rw[zmb];omega))) (by simp[fourB]) (by rw[zmb];have:=HL.out;omega) ?_;intro v' w' hv' hk')
  |go_in)
 exact HR.out v' w' (BR.mono hv' (by simp)) ((Kp.alloc _ _ _).trans hk' (λ_ _ h=>h))
set_option maxRecDepth 20000 in
set_option maxHeartbeats 1000000 in
theorem z5s (n:Nat)(w:World)(hT:Tab w)(hn:n<4294967296)
  (hR:∀v' w',BR w.heap.size w' v' (zoc n)→Kp (λ_=>False) w w'→R (.returned v') w') :
  Calls Tryz.prog 131 #[.int .i64 n] w R:=by
 have HR:=ze hR
 have HT:=ze hT
 have hcv:=run_convert_bytes_const (P:=Tryz.prog) w 48 5 #[.int .u8 80,.int .u8 76,.int .u8 49] 3 3 Tryz.underlying48 Tryz.underlying5
 have HC:Hid (∀j u,(([80,76,49]:List UInt8).map b8)[j]?=some u→(w.alloc (.cells #[.int .u8 80,.int .u8 76,.int .u8 49] 5 (3,4))).cell? ((⟨w.heap.size,0,none⟩:Addr).add j)=some u):=λj u hj=>by
  rw[zub,Nat.zero_add]
  rw[zg (heap_alloc_new w _)]
  simpa [b8] using hj
 clear hR hT
 go_enter Tryz.func131,Tryz.ntmps131
 go_wp2_with (first
  |(go_at_call 140;refine z8m w.heap.size [80,76,49] n _ HC.out hn (by simp) ?_;intro v1 w1 hv1 hk1;have HV1:Hid (BR w.heap.size w1 v1 ([80,76,49]++fourB n)):=BR.mono hv1 (by simp);have HK1:Hid (Kp (λ_=>False) w w1):=(Kp.alloc (λ_=>False) _ _).trans hk1 (λ_ _ h=>h);clear hv1 hk1)
  |(go_at_call 176;refine ztr w.heap.size v1 _ _ (HT.out.kept HK1.out) HV1.out (by simp[zmb]) HK1.out.size ?_;intro v2 w2 hv2 hk2)
  |go_in)
 exact HR.out v2 w2 hv2 (HK1.out.trans hk2 (λb hb e=>by have:=(HV1.out.lt b e).1;omega))
theorem z6s {w:World}{e:TypeId}{g n cap:Nat}{xs:List Value}(h:w.ownsRow 0 e 1 (.slice (some ⟨g,0,none⟩) n cap) n xs)(i:Nat)(v:Value):(w.setCell ⟨g,i,none⟩ v).ownsRow 0 e 1 (.slice (some ⟨g,0,none⟩) n cap) n (xs.set i v):=by
 refine⟨by simpa using h.1,Or.inr ?_⟩
 rcases h.2 with ⟨h0,_⟩|⟨g',cap',cur,e1,h2,hg,h4,h5,h6,h7⟩
 ·cases h0
 ·injection e1 with e1 _ e3
  injection e1 with e1
  injection e1 with e1
  subst e1;subst e3
  refine⟨g,cap,cur.setIfInBounds i v,rfl,h2,?_,h4,h5,by simpa using h6,?_⟩
  ·simp[World.setCell,Array.getElem?_modify,hg]
  ·rw[← h7]
   simp[List.take_set]
end
end
section
open Go.RowKit Go.Maps
def z4b (v:ByteArray × Bool):Value:=.agg #[.string v.1,.bool v.2]
def z3b (g:ByteArray→Option Value)(v:Value):Option Value:=match v with | .string s=>g s|_=>none
def zpc (g:Int→Option Value)(v:Value):Option Value:=match v with | .int .i64 n=>g n|_=>none
def zkf (g:ByteArray→Int→Option Value)(v:Value):Option Value:=match v with | .agg cs=>(match cs.toList with | [.string s,.int .i64 n]=>g s n|_=>none)|_=>none
def zhb {α:Type}(g:ByteArray→α)(k:ByteArray)(v:α):ByteArray→α:=λs=>if s=k then v else g s
def zwb {α:Type}(g:Int→α)(k:Int)(v:α):Int→α:=λs=>if s=k then v else g s
def zbf {α:Type}(g:ByteArray→Int→α)(k:ByteArray)(m:Int)(v:α):ByteArray→Int→α:=λs t=>if s=k∧t=m then v else g s t
theorem zxc {α:Type}(g:ByteArray→α)(k:ByteArray)(v:α):zhb g k v k=v:=by simp[zhb]
theorem z1b {α:Type}(g:ByteArray→α){k s:ByteArray}(h:s≠k)(v:α):zhb g k v s=g s:=by simp[zhb,h]
theorem z6g {α:Type}(g:Int→α)(k:Int)(v:α):zwb g k v k=v:=by simp[zwb]
theorem zji {α:Type}(g:Int→α){k s:Int}(h:s≠k)(v:α):zwb g k v s=g s:=by simp[zwb,h]
theorem zkk (g:ByteArray→Option Value)(k:ByteArray)(v:Value):zhe (z3b g) (.string k) v (z3b (zhb g k (some v))):=by
 refine⟨by simp[z3b,zhb],λx hx=>?_⟩
 cases x<;>simp[z3b]
 rename_i s
 have:s≠k:=λe=>hx (by rw[e])
 simp[zhb,this]
theorem z4z (g:Int→Option Value)(k:Int)(v:Value):zhe (zpc g) (.int .i64 k) v (zpc (zwb g k (some v))):=by
 refine⟨by simp[zpc,zwb],λx hx=>?_⟩
 unfold zpc
 split
 ·rename_i n
  have:n≠k:=λe=>hx (by rw[e])
  simp[zwb,this]
 ·rfl
theorem zlm (g:Int→Option Value)(k:Int):zog (zpc g) (.int .i64 k) (zpc (zwb g k none)):=by
 refine⟨by simp[zpc,zwb],λx hx=>?_⟩
 unfold zpc
 split
 ·rename_i n
  have:n≠k:=λe=>hx (by rw[e])
  simp[zwb,this]
 ·rfl
theorem z5z (g:ByteArray→Int→Option Value)(k:ByteArray)(m:Int)(v:Value):zhe (zkf g) (.agg #[.string k,.int .i64 m]) v (zkf (zbf g k m (some v))):=by
 refine⟨by simp[zkf,zbf],λx hx=>?_⟩
 unfold zkf
 split
 ·rename_i cs
  split
  ·rename_i s n hcs
   have:¬(s=k∧n=m):=λ⟨e1,e2⟩=>hx (by
    subst e1;subst e2
    have:cs=#[.string s,.int .i64 n]:=by apply Array.toList_inj.1;simpa using hcs
    rw[this])
   simp[zbf,this]
  ·rfl
 ·rfl
structure Lab where
 c:Nat
 k:Nat
 i:Int
 s:ByteArray
structure XT where
 sees:Int
 wr:ByteArray→Option (ByteArray × Bool)
 nw:Nat
structure XL where
 lf:Value
 lv:List Value
 lg:List (List UInt8)
 sy:Nat
structure XB where
 needs:Int
 pb:Nat
 pt:Nat
structure XK where
 mu:Nat
 taken:Int
 un:Int→Option XB
 nb:Nat
structure XS where
 now:Int
 hor:Int
 begun:Int
 txs:Int→Option XT
 nopen:Nat
 mom:ByteArray→List Int
 ver:ByteArray→Int→Option (ByteArray × Bool)
 nv:Nat
 nm:Nat
 log:XL
 bk:XK
def eb:ByteArray:=⟨#[]⟩
structure zem (own:Nat→Lab)(c:Nat)(w:World)(l:XL):Prop where
 ownF:∀b,l.lf.ownBlock=some b→own b=⟨c,8,0,eb⟩
 rowF:w.ownsRow 0 48 1 l.lf (zm l.lg).length l.lv
 ownB:∀(i:Nat) v,l.lv[i]?=some v→∀b,v.ownBlock=some b→own b=⟨c,9,(i:Int),eb⟩
 rowB:∀(i:Nat) v f,l.lv[i]?=some v→(zm l.lg)[i]?=some f→BR 0 w v f
structure BkR (own:Nat→Lab)(c:Nat)(w:World)(k:XK):Prop where
 ownU:own k.mu=⟨c,10,0,eb⟩
 und:fmap w Tryz.prog 3 k.mu k.nb (zpc λn=>(k.un n).map λb=>.pointer (some ⟨b.pb,0,none⟩))
 ownB:∀n b,k.un n=some b→own b.pb=⟨c,11,n,eb⟩
 blk:∀n b,k.un n=some b→w.heap[b.pb]?=some (.cells #[.int .i64 b.needs,.pointer (some ⟨b.pt,0,none⟩)] 151 (0,0))
structure XR (own:Nat→Lab)(c:Nat)(w:World)(p:Nat)(s:XS)(mo ph mv mm:Nat)(pt mw:Int→Nat)(sl:ByteArray→Value):Prop where
 ownP:own p=⟨c,0,0,eb⟩
 ownO:own mo=⟨c,1,0,eb⟩
 ownH:own ph=⟨c,2,0,eb⟩
 ownV:own mv=⟨c,3,0,eb⟩
 ownM:own mm=⟨c,4,0,eb⟩
 store:w.heap[p]?=some (.cells #[.pointer (some ⟨ph,0,none⟩),.int .i64 s.hor,.int .i64 s.now,s.log.lf,.int .i64 (zqe s.log.lg.length:Nat),.int .i64 (s.log.sy:Nat),.int .i64 s.begun,.map (some mo),.int .i64 s.bk.taken,.map (some s.bk.mu)] 102 (0,0))
 hist:w.heap[ph]?=some (.cells #[.map (some mv),.map (some mm)] 209 (0,0))
 opn:fmap w Tryz.prog 3 mo s.nopen (zpc λn=>(s.txs n).map λ_=>.pointer (some ⟨pt n,0,none⟩))
 ownT:∀n t,s.txs n=some t→own (pt n)=⟨c,5,n,eb⟩∧own (mw n)=⟨c,6,n,eb⟩
 tx:∀n t,s.txs n=some t→w.heap[pt n]?=some (.cells #[.int .i64 t.sees,.map (some (mw n))] 132 (0,0))
 wr:∀n t,s.txs n=some t→fmap w Tryz.prog 9 (mw n) t.nw (z3b λk=>(t.wr k).map z4b)
 vers:fmap w Tryz.prog 225 mv s.nv (zkf λk m=>(s.ver k m).map z4b)
 moms:fmap w Tryz.prog 9 mm s.nm (z3b λk=>if s.mom k=[] then none else some (sl k))
 ownR:∀k,s.mom k≠[]→∀b,(sl k).ownBlock=some b→own b=⟨c,7,0,k⟩
 row:∀k,s.mom k≠[]→w.ownsRow 0 3 1 (sl k) (s.mom k).length ((s.mom k).map (Value.int .i64))
 log:zem own c w s.log
 bks:BkR own c w s.bk
theorem zh {w:World}{b:Nat}{o:Obj}(h:w.heap[b]?=some o):b<w.heap.size:=(Array.getElem?_eq_some_iff.1 h).1
theorem zx {w:World}{b:Nat}{cs:Array Value}{e:TypeId}(h:w.heap[b]?=some (.cells cs e (0,0)))(i:Nat):w.frozen? ⟨b,i,none⟩=false:=by simp[World.frozen?,h]
section
variable {own own':Nat→Lab}{c:Nat}{w w':World}{p:Nat}{s:XS}{mo ph mv mm:Nat}{pt mw:Int→Nat}{sl:ByteArray→Value}
theorem zem.len {l:XL}(h:zem own c w l):l.lv.length=(zm l.lg).length:=by simpa using h.rowF.1
theorem zge {base e size m:Nat}{v:Value}{xs:List Value}(hr:w.ownsRow base e size v m xs)(hs:∀b,v.ownBlock=some b→w'.heap[b]?=w.heap[b]?):w'.ownsRow base e size v m xs:=by
 refine⟨hr.1,?_⟩
 rcases hr.2 with h|⟨g,cap,cur,rfl,hb,hg,r⟩
 ·exact Or.inl h
 ·exact Or.inr ⟨g,cap,cur,rfl,hb,(hs g rfl).trans hg,r⟩
theorem zem.frame {l:XL}(h:zem own c w l)(hb:∀b,b<w.heap.size→(own b).c=c→((own b).k=8∨(own b).k=9)→w'.heap[b]?=w.heap[b]?)(ho:∀b,b<w.heap.size→(own b).c=c→((own b).k=8∨(own b).k=9)→own' b=own b):zem own' c w' l:=by
 refine⟨λb e=>?_,?_,λi v hv b e=>?_,λi v f hv hf=>?_⟩
 ·have h1:=h.ownF b e
  rw[ho b (h.rowF.lt b e).2 (by rw[h1]) (by rw[h1];simp)];exact h1
 ·exact zge h.rowF (λb e=>hb b (h.rowF.lt b e).2 (by rw[h.ownF b e]) (by rw[h.ownF b e];simp))
 ·have h1:=h.ownB i v hv b e
  have hi:i<(zm l.lg).length:=by rw[← h.len];exact (List.getElem?_eq_some_iff.1 hv).1
  rw[ho b ((h.rowB i v _ hv (List.getElem?_eq_getElem hi)).lt b e).2 (by rw[h1]) (by rw[h1];simp)];exact h1
 ·have h0:=h.rowB i v f hv hf
  exact zge h0 (λb e=>hb b (h0.lt b e).2 (by rw[h.ownB i v hv b e]) (by rw[h.ownB i v hv b e];simp))
theorem zaj {a b:Nat}{k:Nat}{i:Int}{s:ByteArray}(h:own b=⟨c,k,i,s⟩)(ha:(own a).k=8∨(own a).k=9)(hk:k<8):a≠b:=λe=>by
 subst e;rw[h]at ha;simp at ha;omega
theorem zsl {a b:Nat}{k:Nat}{i:Int}{s:ByteArray}(h:own b=⟨c,k,i,s⟩)(ha:10≤(own a).k)(hk:k<10):a≠b:=λe=>by
 subst e;rw[h]at ha;simp at ha;omega
theorem BkR.frame {k:XK}(h:BkR own c w k)(hb:∀b,b<w.heap.size→(own b).c=c→10≤(own b).k→w'.heap[b]?=w.heap[b]?)(ho:∀b,b<w.heap.size→(own b).c=c→10≤(own b).k→own' b=own b):BkR own' c w' k:=by
 have lu:=h.und.lt
 refine⟨?_,?_,λn b e=>?_,λn b e=>?_⟩
 ·rw[ho k.mu lu (by rw[h.ownU]) (by rw[h.ownU];simp)];exact h.ownU
 ·exact h.und.of_block (hb k.mu lu (by rw[h.ownU]) (by rw[h.ownU];simp))
 ·have h1:=h.ownB n b e
  rw[ho b.pb (zh (h.blk n b e)) (by rw[h1]) (by rw[h1];simp)];exact h1
 ·have h1:=h.ownB n b e
  rw[hb b.pb (zh (h.blk n b e)) (by rw[h1]) (by rw[h1];simp)];exact h.blk n b e
theorem XR.frame (h:XR own c w p s mo ph mv mm pt mw sl)(hb:∀b,b<w.heap.size→(own b).c=c→w'.heap[b]?=w.heap[b]?)(ho:∀b,b<w.heap.size→(own b).c=c→own' b=own b):XR own' c w' p s mo ph mv mm pt mw sl:=by
 have lp:=zh h.store;have lh:=zh h.hist;have lo:=h.opn.lt;have lv:=h.vers.lt;have lm:=h.moms.lt
 refine⟨?_,?_,?_,?_,?_,?_,?_,?_,?_,?_,?_,?_,?_,?_,?_,h.log.frame (λb hl hc _=>hb b hl hc) (λb hl hc _=>ho b hl hc),h.bks.frame (λb hl hc _=>hb b hl hc) (λb hl hc _=>ho b hl hc)⟩
 ·rw[ho p lp (by rw[h.ownP])];exact h.ownP
 ·rw[ho mo lo (by rw[h.ownO])];exact h.ownO
 ·rw[ho ph lh (by rw[h.ownH])];exact h.ownH
 ·rw[ho mv lv (by rw[h.ownV])];exact h.ownV
 ·rw[ho mm lm (by rw[h.ownM])];exact h.ownM
 ·rw[hb p lp (by rw[h.ownP])];exact h.store
 ·rw[hb ph lh (by rw[h.ownH])];exact h.hist
 ·exact h.opn.of_block (hb mo lo (by rw[h.ownO]))
 ·intro n t e
  have h1:=h.ownT n t e
  rw[ho (pt n) (zh (h.tx n t e)) (by rw[h1.1]),ho (mw n) ((h.wr n t e).lt) (by rw[h1.2])]
  exact h1
 ·intro n t e
  rw[hb (pt n) (zh (h.tx n t e)) (by rw[(h.ownT n t e).1])];exact h.tx n t e
 ·intro n t e
  exact (h.wr n t e).of_block (hb (mw n) ((h.wr n t e).lt) (by rw[(h.ownT n t e).2]))
 ·exact h.vers.of_block (hb mv lv (by rw[h.ownV]))
 ·exact h.moms.of_block (hb mm lm (by rw[h.ownM]))
 ·intro k hk b e
  have h1:=h.ownR k hk b e
  rw[ho b ((h.row k hk).lt b e).2 (by rw[h1])];exact h1
 ·intro k hk
  have h0:=h.row k hk
  refine⟨h0.1,?_⟩
  rcases h0.2 with h1|⟨g,cap,cur,e,hg0,hg,r⟩
  ·exact Or.inl h1
  ·have hlt:=zh hg
   exact Or.inr ⟨g,cap,cur,e,hg0,(hb g hlt (by rw[h.ownR k hk g (by rw[e];rfl)])).trans hg,r⟩
theorem zrc (g:Int→Option Value)(n:Int):zpc g (.int .i64 n)=g n:=rfl
theorem zcc (g:ByteArray→Option Value)(k:ByteArray):z3b g (.string k)=g k:=rfl
theorem zol (g:ByteArray→Int→Option Value)(k:ByteArray)(m:Int):zkf g (.agg #[.string k,.int .i64 m])=g k m:=rfl
end
end
section
open Go.RowKit Go.Maps
section
variable {own own':Nat→Lab}{c:Nat}{w w':World}{p:Nat}{s:XS}{mo ph mv mm:Nat}{pt mw:Int→Nat}{sl:ByteArray→Value}
theorem zfb {a b:Nat}(h:own a≠own b):a≠b:=λe=>h (by rw[e])
theorem XR.reopen (h:XR own c w p s mo ph mv mm pt mw sl)(hb:∀b,b≠mo→w'.heap[b]?=w.heap[b]?)(txs':Int→Option XT)(nopen':Nat)
  (hopn:fmap w' Tryz.prog 3 mo nopen' (zpc λn=>(txs' n).map λ_=>.pointer (some ⟨pt n,0,none⟩))) (hsub:∀n t,txs' n=some t→s.txs n=some t) :
  XR own c w' p { s with txs:=txs',nopen:=nopen' } mo ph mv mm pt mw sl:=by
 have np:p≠mo:=zfb (own:=own) (by rw[h.ownP,h.ownO];simp)
 have nh:ph≠mo:=zfb (own:=own) (by rw[h.ownH,h.ownO];simp)
 have nv:mv≠mo:=zfb (own:=own) (by rw[h.ownV,h.ownO];simp)
 have nm:mm≠mo:=zfb (own:=own) (by rw[h.ownM,h.ownO];simp)
 refine⟨h.ownP,h.ownO,h.ownH,h.ownV,h.ownM,(hb p np).trans h.store,(hb ph nh).trans h.hist,hopn,λn t e=>h.ownT n t (hsub n t e),λn t e=>?_,λn t e=>?_,h.vers.of_block (hb mv nv),h.moms.of_block (hb mm nm),h.ownR,λk hk=>?_,h.log.frame (λb _ _ hk=>hb b (zaj h.ownO hk (by omega))) (λ_ _ _ _=>rfl),h.bks.frame (λb _ _ hk=>hb b (zsl h.ownO hk (by omega))) (λ_ _ _ _=>rfl)⟩
 ·exact (hb _ (zfb (own:=own) (by rw[(h.ownT n t (hsub n t e)).1,h.ownO];simp))).trans (h.tx n t (hsub n t e))
 ·exact (h.wr n t (hsub n t e)).of_block (hb _ (zfb (own:=own) (by rw[(h.ownT n t (hsub n t e)).2,h.ownO];simp)))
 ·have h0:=h.row k hk
  refine⟨h0.1,?_⟩
  rcases h0.2 with h1|⟨g,cap,cur,e,hg0,hg,r⟩
  ·exact Or.inl h1
  ·exact Or.inr ⟨g,cap,cur,e,hg0,(hb g (zfb (own:=own) (by rw[h.ownR k hk g (by rw[e];rfl),h.ownO];simp))).trans hg,r⟩
theorem zsm {F:Int→Value}(g:Int→Option XT)(k:Int)(v:Option XT):(λn=>((zwb g k v) n).map λ_=>F n)=zwb (λn=>(g n).map λ_=>F n) k (v.map λ_=>F k):=by
 funext n
 by_cases e:n=k
 ·subst e;simp[zwb]
 ·simp[zwb,e]
variable {R:Ending→World→Prop}
theorem zs2 (h:XR own c w p s mo ph mv mm pt mw sl)(tx:Int)(hwx:(Lit.int .i64 tx).wf=true)
  (h0:s.txs tx=none→R (.returned (.int .i64 2)) w)
  (h1:∀t,s.txs tx=some t→∀w',Kp (λb=>(own b).c=c) w w'→XR own c w' p { s with txs:=zwb s.txs tx none,nopen:=s.nopen-1 } mo ph mv mm pt mw sl→R (.returned (.int .i64 0)) w') :
  Calls Tryz.prog 108 #[.pointer (some ⟨p,0,none⟩),.int .i64 tx] w R:=by
 have c2:w.cell? ⟨p,7,none⟩=some (.map (some mo)):=zg h.store 7
 cases e:s.txs tx with
 |none=>exact zgu p mo s.nopen _ tx w c2 h.opn hwx (by rw[zrc,e];rfl) (h0 e)
 |some t=>
  refine zhu p mo s.nopen _ tx w c2 h.opn hwx ⟨pt tx,0,none⟩ (by rw[zrc,e];rfl) (f':=zpc λn=>((zwb s.txs tx none) n).map λ_=>.pointer (some ⟨pt n,0,none⟩)) (by rw[zsm];exact zlm _ _) (λw' hf ht=>?_)
  refine h1 t e w' (Kp.of_turned ht (by rw[h.ownO])) (h.reopen (λb hb=>zlb ht b hb) _ _ hf (λn t' e'=>?_))
  by_cases en:n=tx
  ·subst en;rw[z6g]at e';cases e'
  ·rw[zji _ en]at e';exact e'
theorem zq {w:World}{b i:Nat}{cs:Array Value}{e:TypeId}{fz:Nat × Nat}(h:w.heap[b]?=some (.cells cs e fz))(v:Value):(w.setCell ⟨b,i,none⟩ v).heap[b]?=some (.cells (cs.setIfInBounds i v) e fz):=by
 simp[World.setCell,Array.getElem?_modify,h]
theorem z31 (pt:Int→Nat)(txs:Int→Option XT)(k:Int)(x:Nat)(t:XT):(zpc λn=>((zwb txs k (some t)) n).map λ_=>Value.pointer (some ⟨zwb pt k x n,0,none⟩))=zpc (zwb (λn=>(txs n).map λ_=>Value.pointer (some ⟨pt n,0,none⟩)) k (some (.pointer (some ⟨x,0,none⟩)))):=by
 congr 1
 funext n
 by_cases e:n=k
 ·subst e;simp[zwb]
 ·simp[zwb,e]
theorem zu2 (h:XR own c w p s mo ph mv mm pt mw sl)(hb0:0≤s.begun)(hb1:s.begun<9223372036854775807)(hnew:s.txs (s.begun+1)=none)
  (h0:8≤s.nopen→R (.returned (.tuple #[.int .i64 0,.int .i64 3])) w)
  (h1:s.nopen<8→∀w' own',Kp (λb=>(own b).c=c) w w'→(∀b,b<w.heap.size→own' b=own b)→(∀b,w.heap.size≤b→b<w'.heap.size→(own' b).c=c)→
   XR own' c w' p { s with begun:=s.begun+1,txs:=zwb s.txs (s.begun+1) (some ⟨s.now,λ_=>none,0⟩),nopen:=s.nopen+1 } mo ph mv mm (zwb pt (s.begun+1) (w.heap.size+1)) (zwb mw (s.begun+1) w.heap.size) sl→
   R (.returned (.tuple #[.int .i64 (s.begun+1),.int .i64 0])) w') :
  Calls Tryz.prog 34 #[.pointer (some ⟨p,0,none⟩)] w R:=by
 have c2:w.cell? ⟨p,7,none⟩=some (.map (some mo)):=zg h.store 7
 have np:p≠mo:=zfb (own:=own) (by rw[h.ownP,h.ownO];simp)
 by_cases hn:8≤s.nopen
 ·exact ziu p mo s.nopen _ w c2 h.opn (by omega) (h0 hn)
 ·refine zju p mo s.nopen _ w s.now s.begun (zg h.store 2) (zg h.store 6) c2 (zx h.store 6) hb0 hb1 h.opn (by omega) (by rw[zrc,hnew];rfl) (z4z _ _ _) (λw' hf ht=>?_)
  rw[← z31 (t:=⟨s.now,λ_=>none,0⟩)]at hf
  have hsz:(((w.setCell ⟨p,6,none⟩ (.int .i64 (s.begun+1))).alloc (.map #[] 0)).alloc (.cells #[.int .i64 s.now,.map (some w.heap.size)] 132)).drew.heap.size=w.heap.size+2:=by simp[World.setCell]
  have hsz':w'.heap.size=w.heap.size+2:=(zwj ht).trans hsz
  have old:∀b,b<w.heap.size→b≠p→b≠mo→w'.heap[b]?=w.heap[b]?:=λb hlt h1 h2=>by
   rw[zlb ht b h2,z6q w ⟨p,6,none⟩ _ _ _ b hlt h1]
  have lmo:=h.opn.lt
  have atP:w'.heap[p]?=some (.cells #[.pointer (some ⟨ph,0,none⟩),.int .i64 s.hor,.int .i64 s.now,s.log.lf,.int .i64 (zqe s.log.lg.length:Nat),.int .i64 (s.log.sy:Nat),.int .i64 (s.begun+1),.map (some mo),.int .i64 s.bk.taken,.map (some s.bk.mu)] 102 (0,0)):=by
   rw[zlb ht p np]
   show (((w.setCell ⟨p,6,none⟩ (.int .i64 (s.begun+1))).alloc (.map #[] 0)).alloc _).heap[p]?=_
   have lp:=zh h.store
   have hs:(w.setCell ⟨p,6,none⟩ (.int .i64 (s.begun+1))).heap.size=w.heap.size:=by simp[World.setCell]
   rw[Below.heap_alloc _ _ _ (by simp;omega),Below.heap_alloc _ _ _ (by omega),zq h.store]
   rfl
  have hs1:(w.setCell ⟨p,6,none⟩ (.int .i64 (s.begun+1))).heap.size=w.heap.size:=by simp[World.setCell]
  have atM:w'.heap[w.heap.size]?=some (.map #[] 0):=by
   rw[zlb ht _ (by omega)]
   show (((w.setCell ⟨p,6,none⟩ (.int .i64 (s.begun+1))).alloc (.map #[] 0)).alloc _).heap[w.heap.size]?=_
   rw[Below.heap_alloc _ _ _ (by simp<;>omega),← hs1]
   exact heap_alloc_new _ _
  have atT:w'.heap[w.heap.size+1]?=some (.cells #[.int .i64 s.now,.map (some w.heap.size)] 132 (0,0)):=by
   rw[zlb ht _ (by omega)]
   have hs2:((w.setCell ⟨p,6,none⟩ (.int .i64 (s.begun+1))).alloc (.map #[] 0)).heap.size=w.heap.size+1:=by simp[hs1]
   show (((w.setCell ⟨p,6,none⟩ (.int .i64 (s.begun+1))).alloc (.map #[] 0)).alloc _).heap[w.heap.size+1]?=_
   rw[← hs2]
   exact heap_alloc_new _ _
  have hout:∀b,b<w.heap.size→(λb=>if b=w.heap.size then (⟨c,6,s.begun+1,eb⟩:Lab) else if b=w.heap.size+1 then ⟨c,5,s.begun+1,eb⟩ else own b) b=own b:=λb hb=>by
   have e1:b≠w.heap.size:=by omega
   have e2:b≠w.heap.size+1:=by omega
   simp[e1,e2]
  refine h1 (by omega) w' (λb=>if b=w.heap.size then ⟨c,6,s.begun+1,eb⟩ else if b=w.heap.size+1 then ⟨c,5,s.begun+1,eb⟩ else own b) ?_ hout ?_ ?_
  ·refine ((((Kp.setCell w _ _ (S:=λb=>(own b).c=c) (by show (own p).c=c;rw[h.ownP])).trans (Kp.alloc (λb=>(own b).c=c) _ _) (λ_ _ h=>h)).trans (Kp.alloc (λb=>(own b).c=c) _ _) (λ_ _ h=>h)).trans (Kp.drew (λb=>(own b).c=c) _) (λ_ _ h=>h)).trans (Kp.of_turned (S:=λb=>(own b).c=c) ht (by rw[h.ownO])) (λ_ _ h=>h)
  ·intro b hb1 hb2
   rcases (by omega:b=w.heap.size∨b=w.heap.size+1) with e|e
   ·subst e;simp
   ·subst e;simp
  ·have lp:=zh h.store;have lh:=zh h.hist;have lo:=h.opn.lt;have lv:=h.vers.lt;have lm:=h.moms.lt
   refine⟨(hout p lp).trans h.ownP,(hout mo lo).trans h.ownO,(hout ph lh).trans h.ownH,(hout mv lv).trans h.ownV,(hout mm lm).trans h.ownM,atP,?_,hf,?_,?_,?_,?_,?_,?_,?_,h.log.frame (λb hl _ hk=>old b hl (zaj h.ownP hk (by omega)) (zaj h.ownO hk (by omega))) (λb hl _ _=>hout b hl),h.bks.frame (λb hl _ hk=>old b hl (zsl h.ownP hk (by omega)) (zsl h.ownO hk (by omega))) (λb hl _ _=>hout b hl)⟩
   ·exact (old ph lh (zfb (own:=own) (by rw[h.ownH,h.ownP];simp)) (zfb (own:=own) (by rw[h.ownH,h.ownO];simp))).trans h.hist
   ·intro n t e
    by_cases en:n=s.begun+1
    ·subst en;simp[zwb]
    ·simp only[zwb,en,if_false]at e ⊢
     have h1:=h.ownT n t e
     exact⟨(hout _ (zh (h.tx n t e))).trans h1.1,(hout _ (h.wr n t e).lt).trans h1.2⟩
   ·intro n t e
    by_cases en:n=s.begun+1
    ·subst en;simp[zwb]at e ⊢;subst e;exact atT
    ·simp only[zwb,en,if_false]at e ⊢
     exact (old _ (zh (h.tx n t e)) (zfb (own:=own) (by rw[(h.ownT n t e).1,h.ownP];simp)) (zfb (own:=own) (by rw[(h.ownT n t e).1,h.ownO];simp))).trans (h.tx n t e)
   ·intro n t e
    by_cases en:n=s.begun+1
    ·subst en;simp[zwb]at e ⊢;subst e
     have:=(z0o w Tryz.prog 9).of_block (w':=w') (by rw[atM];exact (heap_alloc_new w _).symm)
     refine (show (z3b λk=>Option.map z4b none)=λ_=>none from ?_) ▸ this
     funext v;cases v<;>rfl
    ·simp only[zwb,en,if_false]at e ⊢
     exact (h.wr n t e).of_block (old _ (h.wr n t e).lt (zfb (own:=own) (by rw[(h.ownT n t e).2,h.ownP];simp)) (zfb (own:=own) (by rw[(h.ownT n t e).2,h.ownO];simp)))
   ·exact h.vers.of_block (old mv lv (zfb (own:=own) (by rw[h.ownV,h.ownP];simp)) (zfb (own:=own) (by rw[h.ownV,h.ownO];simp)))
   ·exact h.moms.of_block (old mm lm (zfb (own:=own) (by rw[h.ownM,h.ownP];simp)) (zfb (own:=own) (by rw[h.ownM,h.ownO];simp)))
   ·intro k hk b e
    exact (hout b ((h.row k hk).lt b e).2).trans (h.ownR k hk b e)
   ·intro k hk
    have h0:=h.row k hk
    refine⟨h0.1,?_⟩
    rcases h0.2 with h1|⟨g,cap,cur,e,hg0,hg,r⟩
    ·exact Or.inl h1
    ·have hl:=h.ownR k hk g (by rw[e];rfl)
     exact Or.inr ⟨g,cap,cur,e,hg0,(old g (zh hg) (zfb (own:=own) (by rw[hl,h.ownP];simp)) (zfb (own:=own) (by rw[hl,h.ownO];simp))).trans hg,r⟩
end
end
section
open Go.RowKit Go.Maps
def zyd (t:XT)(key:ByteArray)(v:ByteArray × Bool):Option XT:=
 if (t.wr key).isSome then some { t with wr:=zhb t.wr key (some v) } else if t.nw<10 then some { t with wr:=zhb t.wr key (some v),nw:=t.nw+1 } else none
section
variable {own own':Nat→Lab}{c:Nat}{w w':World}{p:Nat}{s:XS}{mo ph mv mm:Nat}{pt mw:Int→Nat}{sl:ByteArray→Value}
theorem XR.rewrite (h:XR own c w p s mo ph mv mm pt mw sl)(tx:Int)(t t':XT)(e:s.txs tx=some t)(hb:∀b,b<w.heap.size→b≠mw tx→w'.heap[b]?=w.heap[b]?)(hs:t'.sees=t.sees)
  (hw:fmap w' Tryz.prog 9 (mw tx) t'.nw (z3b λk=>(t'.wr k).map z4b)):XR own c w' p { s with txs:=zwb s.txs tx (some t') } mo ph mv mm pt mw sl:=by
 have lp:=zh h.store;have lh:=zh h.hist;have lo:=h.opn.lt;have lv:=h.vers.lt;have lm:=h.moms.lt
 have hl:=(h.ownT tx t e).2
 have eo:(λn=>((zwb s.txs tx (some t')) n).map λ_=>Value.pointer (some ⟨pt n,0,none⟩))=λn=>(s.txs n).map λ_=>Value.pointer (some ⟨pt n,0,none⟩):=by
  funext n
  by_cases en:n=tx
  ·subst en;simp[zwb,e]
  ·simp[zwb,en]
 refine⟨h.ownP,h.ownO,h.ownH,h.ownV,h.ownM,?_,?_,?_,?_,?_,?_,?_,?_,h.ownR,λk hk=>?_,h.log.frame (λb hlt _ hk=>hb b hlt (zaj hl hk (by omega))) (λ_ _ _ _=>rfl),h.bks.frame (λb hlt _ hk=>hb b hlt (zsl hl hk (by omega))) (λ_ _ _ _=>rfl)⟩
 ·exact (hb p lp (zfb (own:=own) (by rw[h.ownP,hl];simp))).trans h.store
 ·exact (hb ph lh (zfb (own:=own) (by rw[h.ownH,hl];simp))).trans h.hist
 ·show fmap w' _ _ _ _ (zpc λn=>((zwb s.txs tx (some t')) n).map λ_=>Value.pointer (some ⟨pt n,0,none⟩))
  rw[eo]
  exact h.opn.of_block (hb mo lo (zfb (own:=own) (by rw[h.ownO,hl];simp)))
 ·intro n t1 e1
  by_cases en:n=tx
  ·subst en;exact h.ownT n t e
  ·simp only[zwb,en,if_false]at e1;exact h.ownT n t1 e1
 ·intro n t1 e1
  by_cases en:n=tx
  ·subst en
   simp only[z6g,Option.some.injEq]at e1
   subst e1
   rw[hs]
   exact (hb _ (zh (h.tx n t e)) (zfb (own:=own) (by rw[(h.ownT n t e).1,hl];simp))).trans (h.tx n t e)
  ·simp only[zwb,en,if_false]at e1
   exact (hb _ (zh (h.tx n t1 e1)) (zfb (own:=own) (by rw[(h.ownT n t1 e1).1,hl];simp))).trans (h.tx n t1 e1)
 ·intro n t1 e1
  by_cases en:n=tx
  ·subst en
   simp only[z6g,Option.some.injEq]at e1
   subst e1
   exact hw
  ·simp only[zwb,en,if_false]at e1
   exact (h.wr n t1 e1).of_block (hb _ (h.wr n t1 e1).lt (zfb (own:=own) (by rw[(h.ownT n t1 e1).2,hl];simp[en])))
 ·exact h.vers.of_block (hb mv lv (zfb (own:=own) (by rw[h.ownV,hl];simp)))
 ·exact h.moms.of_block (hb mm lm (zfb (own:=own) (by rw[h.ownM,hl];simp)))
 ·have h0:=h.row k hk
  refine⟨h0.1,?_⟩
  rcases h0.2 with h1|⟨g,cap,cur,e,hg0,hg,r⟩
  ·exact Or.inl h1
  ·exact Or.inr ⟨g,cap,cur,e,hg0,(hb g (zh hg) (zfb (own:=own) (by rw[h.ownR k hk g (by rw[e];rfl),hl];simp))).trans hg,r⟩
theorem XR.kept (h:XR own c w p s mo ph mv mm pt mw sl)(hk:Kp (λ_=>False) w w'):XR own c w' p s mo ph mv mm pt mw sl:=
 h.frame (λb hb _=>hk.block b hb (λe=>e)) (λ_ _ _=>rfl)
theorem zsz (g:ByteArray→Option (ByteArray × Bool))(k:ByteArray)(v:ByteArray × Bool):(λn=>((zhb g k (some v)) n).map z4b)=zhb (λn=>(g n).map z4b) k (some (z4b v)):=by
 funext n
 by_cases e:n=k
 ·subst e;simp[zhb]
 ·simp[zhb,e]
variable {R:Ending→World→Prop}
theorem z5t (h:XR own c w p s mo ph mv mm pt mw sl)(tx:Int)(t:XT)(e:s.txs tx=some t)(key val:ByteArray)(g:Bool)(hk:zu key=true)(hnw:t.nw≤10)
  (h0:zyd t key (val,g)=none→∀w',Kp (λ_=>False) w w'→R (.returned (.int .i64 3)) w')
  (h1:∀t',zyd t key (val,g)=some t'→∀w',Kp (λb=>b=mw tx) w w'→XR own c w' p { s with txs:=zwb s.txs tx (some t') } mo ph mv mm pt mw sl→R (.returned (.int .i64 0)) w') :
  Calls Tryz.prog 69 #[.pointer (some ⟨pt tx,0,none⟩),.string key,.agg #[.string val,.bool g]] w R:=by
 have hlen:=z1d key hk
 have c1:w.cell? ⟨pt tx,1,none⟩=some (.map (some (mw tx))):=zg (h.tx tx t e) 1
 have hw:=h.wr tx t e
 have hp:zhe (z3b λk=>(t.wr k).map z4b) (.string key) (.agg #[.string val,.bool g]) (z3b λk=>((zhb t.wr key (some (val,g))) k).map z4b):=by
  rw[zsz];exact zkk _ _ _
 cases ek:t.wr key with
 |some v0=>
  have hwr:zyd t key (val,g)=some { t with wr:=zhb t.wr key (some (val,g)) }:=by simp[zyd,ek]
  refine znt (pt tx) (mw tx) t.nw _ key val g w c1 hw hlen v0.1 v0.2 (by rw[zcc,ek];rfl) (by omega) hp (λw' hk hf=>h1 _ hwr w' hk (h.rewrite tx t _ e (λb hb hne=>hk.block b hb hne) rfl hf))
 |none=>
  by_cases hn:t.nw<10
  ·have hwr:zyd t key (val,g)=some { t with wr:=zhb t.wr key (some (val,g)),nw:=t.nw+1 }:=by simp[zyd,ek,hn]
   refine zdy (pt tx) (mw tx) t.nw _ key val g w c1 hw hlen (by rw[zcc,ek];rfl) (by omega) hp (λw' hk hf=>h1 _ hwr w' hk (h.rewrite tx t _ e (λb hb hne=>hk.block b hb hne) rfl hf))
  ·have hwr:zyd t key (val,g)=none:=by simp[zyd,ek,hn]
   refine z3v (pt tx) (mw tx) t.nw _ key val g w c1 hw (by unfold maxLen;omega) (by rw[zcc,ek];rfl) (by omega) (λw' hk=>h0 hwr w' hk)
theorem Kp.own_of {S:Nat→Prop}(hk:Kp S w w')(hs:∀b,S b→(own b).c=c):Kp (λb=>(own b).c=c) w w':=hk.mono (λb _ h=>hs b h)
theorem zd4 (h:XR own c w p s mo ph mv mm pt mw sl)(tx:Int)(hwx:(Lit.int .i64 tx).wf=true)(key val:ByteArray)(hkl:key.size≤maxLen)(hvl:val.size≤maxLen)(hnw:∀n t,s.txs n=some t→t.nw≤10)
  (h0:s.txs tx=none→R (.returned (.int .i64 2)) w)
  (h1:∀t,s.txs tx=some t→(zu key && decide (val.size≤20))=false→R (.returned (.int .i64 1)) w)
  (h2:∀t,s.txs tx=some t→(zu key && decide (val.size≤20))=true→zyd t key (val,false)=none→∀w',Kp (λb=>(own b).c=c) w w'→XR own c w' p s mo ph mv mm pt mw sl→R (.returned (.int .i64 3)) w')
  (h3:∀t t',s.txs tx=some t→(zu key && decide (val.size≤20))=true→zyd t key (val,false)=some t'→∀w',Kp (λb=>(own b).c=c) w w'→XR own c w' p { s with txs:=zwb s.txs tx (some t') } mo ph mv mm pt mw sl→R (.returned (.int .i64 0)) w') :
  Calls Tryz.prog 35 #[.pointer (some ⟨p,0,none⟩),.int .i64 tx,.string key,.string val] w R:=by
 have c2:w.cell? ⟨p,7,none⟩=some (.map (some mo)):=zg h.store 7
 cases e:s.txs tx with
 |none=>exact z8z p mo s.nopen _ tx key val w c2 h.opn hwx (by rw[zrc,e];rfl) (h0 e)
 |some t=>
  cases hb:(zu key && decide (val.size≤20)) with
  |false=>exact z81 p mo s.nopen _ tx key val w c2 h.opn hwx ⟨pt tx,0,none⟩ (by rw[zrc,e];rfl) hkl hvl hb (h1 t e hb)
  |true=>
   have hb':zu key=true∧val.size≤20:=by simpa using hb
   refine z6z p mo s.nopen (pt tx) _ tx key val w c2 h.opn hwx (by rw[zrc,e];rfl) hb'.1 hb'.2 (λw1 hk1=>?_)
   have hx1:=h.kept hk1
   refine z5t hx1 tx t e key val false hb'.1 (hnw tx t e) (λhn w2 hk2=>⟨3,rfl,?_⟩) (λt' ht w2 hk2 hx2=>⟨0,rfl,?_⟩)
   ·exact h2 t e hb hn w2 ((hk1.trans hk2 (λ_ _ h=>h)).own_of (λ_ h=>h.elim)) (hx1.kept hk2)
   ·exact h3 t t' e hb ht w2 ((hk1.mono (S':=λb=>b=mw tx) (λ_ _ h=>h.elim)).trans hk2 (λ_ _ h=>h) |>.own_of (λb hb=>by rw[hb,(h.ownT tx t e).2])) hx2
theorem zv0 (h:XR own c w p s mo ph mv mm pt mw sl)(tx:Int)(hwx:(Lit.int .i64 tx).wf=true)(key:ByteArray)(hkl:key.size≤maxLen)(hnw:∀n t,s.txs n=some t→t.nw≤10)
  (h0:s.txs tx=none→R (.returned (.int .i64 2)) w)
  (h1:∀t,s.txs tx=some t→zu key=false→R (.returned (.int .i64 1)) w)
  (h2:∀t,s.txs tx=some t→zu key=true→zyd t key (eb,true)=none→∀w',Kp (λb=>(own b).c=c) w w'→XR own c w' p s mo ph mv mm pt mw sl→R (.returned (.int .i64 3)) w')
  (h3:∀t t',s.txs tx=some t→zu key=true→zyd t key (eb,true)=some t'→∀w',Kp (λb=>(own b).c=c) w w'→XR own c w' p { s with txs:=zwb s.txs tx (some t') } mo ph mv mm pt mw sl→R (.returned (.int .i64 0)) w') :
  Calls Tryz.prog 73 #[.pointer (some ⟨p,0,none⟩),.int .i64 tx,.string key] w R:=by
 have c2:w.cell? ⟨p,7,none⟩=some (.map (some mo)):=zg h.store 7
 cases e:s.txs tx with
 |none=>exact zts p mo s.nopen _ tx key w c2 h.opn hwx (by rw[zrc,e];rfl) (h0 e)
 |some t=>
  cases hb:zu key with
  |false=>exact zxu p mo s.nopen _ tx key w c2 h.opn hwx ⟨pt tx,0,none⟩ (by rw[zrc,e];rfl) hkl hb (h1 t e hb)
  |true=>
   refine zss p mo s.nopen (pt tx) _ tx key w c2 h.opn hwx (by rw[zrc,e];rfl) hb ?_
   refine z5t h tx t e key eb true hb (hnw tx t e) (λhn w2 hk2=>⟨3,rfl,?_⟩) (λt' ht w2 hk2 hx2=>⟨0,rfl,?_⟩)
   ·exact h2 t e hb hn w2 (hk2.own_of (λ_ h=>h.elim)) (h.kept hk2)
   ·exact h3 t t' e hb ht w2 (hk2.own_of (λb hb=>by rw[hb,(h.ownT tx t e).2])) hx2
end
end
end Go.Proofs.YthbdpfccfcceiaaGreatDoor
