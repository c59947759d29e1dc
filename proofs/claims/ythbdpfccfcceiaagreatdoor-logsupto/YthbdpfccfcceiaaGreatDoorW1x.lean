/-
  Of the proof of logsUpto_card.
-/
import Derived.Test.YthbdpfccfcceiaaGreatDoorRows
import Derived.WalkKit
import Derived.WalkSpells
import Derived.WalkLawsBesides
import Derived.BigFrame
import Derived.Maps.OwnSet
import Derived.Maps.RangeWalk
import Derived.Deep.Draws
import Derived.Deep.RegionWith
import Derived.Deep.QuietTactic
import Derived.BigQuiet
namespace Go.Proofs.YthbdpfccfcceiaaGreatDoor
section
open Go.RowKit
def kb (c:UInt8):Bool:=decide (97≤(c.toNat:Int)∧(c.toNat:Int)≤122∨48≤(c.toNat:Int)∧(c.toNat:Int)≤57)
def zu (s:ByteArray):Bool:=decide (1≤s.size) && (decide (s.size≤8) && s.data.toList.all kb)
theorem zag {a b:Bool}(h:a=b):Ending.returned (.bool a) = .returned (.bool b):=by rw[h]
theorem zpp (s:ByteArray)(k:Nat)(h:k<s.size):s.data.toList.take (k+1)=s.data.toList.take k++[s[k]]:=by
 rw[List.take_succ_eq_append_getElem (by simpa using h)];rfl
theorem z8o (s:ByteArray)(k:Nat)(h:k<s.size)(hb:kb s[k]=false):false=zu s:=by
 have:s.data.toList.all kb=false:=by
  rw[List.all_eq_false]
  exact⟨s[k],List.getElem_mem (l:=s.data.toList) (n:=k) (by simpa using h),by simp[hb]⟩
 simp[zu,this]
theorem z7o (s:ByteArray)(k:Nat)(hk:s.size≤k)(hall:(s.data.toList.take k).all kb=true):zu s=(decide (1≤s.size) && decide (s.size≤8)):=by
 rw[List.take_of_length_le (by simpa using hk)]at hall
 unfold zu
 rw[hall];simp
set_option maxHeartbeats 400000 in
theorem zsk (c:UInt8)(w:World) :
  Calls Tryz.prog 123 #[.int .u8 c.toNat] w λe w'=>e = .returned (.bool (kb c))∧w'=w:=by
 go_enter Tryz.func123,Tryz.ntmps123
 go_wp2
 all_goals
  go_ret
  exact⟨zag (by unfold kb;rw[Bool.eq_iff_iff];simp<;>omega),rfl⟩
set_option maxHeartbeats 400000 in
theorem z3c (s:ByteArray)(w:World)(hs:s.size≤maxLen) :
  Calls Tryz.prog 67 #[.string s] w λe w'=>e = .returned (.bool (zu s))∧w'=w:=by
 unfold maxLen at hs
 by_cases h1:s.size<1
 ·have h1':(s.size:Int)<1:=by omega
  go_enter Tryz.func67,Tryz.ntmps67
  go_wp2
  go_ret
  exact⟨zag (by unfold zu;simp;omega),rfl⟩
 by_cases h8:8<s.size
 ·have h8':(8:Int)<s.size:=by omega
  have h1':¬(s.size:Int)<1:=by omega
  go_enter Tryz.func67,Tryz.ntmps67
  go_wp2
  go_ret
  exact⟨zag (by unfold zu;simp;omega),rfl⟩
 have h8':¬(8:Int)<s.size:=by omega
 have h1':¬(s.size:Int)<1:=by omega
 go_enter Tryz.func67,Tryz.ntmps67
 go_wp2
 go_loop [14] (λi=>∃k:Nat,k≤s.size∧i = .int .i64 k∧(s.data.toList.take k).all kb=true) (λi=>s.size-(intOf i).toNat)
 case atStart=>exact⟨0,Nat.zero_le _,rfl,rfl⟩
 case round=>
  obtain⟨k,hk,rfl,hall⟩:=hrel
  by_cases hlt:k<s.size
  ·have HT:Hid (s.data.toList.take (k+1)=s.data.toList.take k++[s[k]]):=zpp s k hlt
   cases hb:kb s[k]
   ·go_wp2_with (go_at_call 123;refine (zsk _ _).mono ?_;rintro e w' ⟨rfl,rfl⟩)
    go_ret
    exact⟨zag (z8o s k hlt hb),rfl⟩
   ·go_wp2_with (go_at_call 123;refine (zsk _ _).mono ?_;rintro e w' ⟨rfl,rfl⟩)
    go_round
    case rel=>exact⟨k+1,by omega,by go_num,by rw[HT.out];simp[hall,hb]⟩
    case measure=>simp[intOf];omega
  ·go_wp2
   go_ret
   exact⟨zag (by rw[z7o s k (by omega) hall];simp;omega),rfl⟩
set_option maxHeartbeats 400000 in
theorem zvh (s:ByteArray)(w:World)(hs:s.size≤maxLen) :
  Calls Tryz.prog 68 #[.string s] w λe w'=>e = .returned (.bool (decide (s.size≤20)))∧w'=w:=by
 unfold maxLen at hs
 go_enter Tryz.func68,Tryz.ntmps68
 go_wp2
 go_ret
 exact⟨zag (by rw[Bool.eq_iff_iff];simp<;>omega),rfl⟩
set_option maxHeartbeats 400000 in
theorem z8b (s:ByteArray)(w:World)(hs:s.size≤maxLen) :
  Calls Tryz.prog 151 #[.string s] w λe w'=>e = .returned (.bool (zu s))∧w'=w:=by
 unfold maxLen at hs
 go_enter Tryz.func151,Tryz.ntmps151
 go_wp2
 go_loop [3] (λi=>∃k:Nat,k≤s.size∧i = .int .i64 k∧(s.data.toList.take k).all kb=true) (λi=>s.size-(intOf i).toNat)
 case atStart=>exact⟨0,Nat.zero_le _,rfl,rfl⟩
 case round=>
  obtain⟨k,hk,rfl,hall⟩:=hrel
  by_cases hlt:k<s.size
  ·have HT:Hid (s.data.toList.take (k+1)=s.data.toList.take k++[s[k]]):=zpp s k hlt
   go_wp2
   all_goals first
    |go_round
     case rel=>
      have hb:kb s[k]=true:=by
       unfold kb;simp at *;omega
      exact⟨k+1,by omega,by go_num,by rw[HT.out];simp[hall,hb]⟩
     case measure=>simp[intOf];omega
    |go_ret
     have hb:kb s[k]=false:=by
      unfold kb;simp at *;omega
     exact⟨zag (z8o s k hlt hb),rfl⟩
  ·go_wp2
   all_goals
    go_ret
    exact⟨zag (by rw[z7o s k (by omega) hall];rw[Bool.eq_iff_iff];simp<;>omega),rfl⟩
end
section
open Go.Maps (Keyed IsMap Tidy)
def zgm (v:Value):Option (DataW Value × List MemPlace):=some (.held v,[])
structure FM (P:Program)(k:TypeId)(D:DataW Value)(f:Value→Option Value):Prop where
 has:∀x l,keyOf P k x=some l→Maps.has D l=(f x).isSome
 at_:∀x l v z,keyOf P k x=some l→f x=some v→D.atKey l z = .held v
 key:∀x,(f x).isSome=true→∃l,keyOf P k x=some l
def fmap (w:World)(P:Program)(k:TypeId)(b n:Nat)(f:Value→Option Value):Prop:=
 ∃D,w.ownsMap P k zgm b n D∧Maps.size D=n∧FM P k D f
structure zhe (f:Value→Option Value)(key val:Value)(f':Value→Option Value):Prop where
 same:f' key=some val
 other:∀x,x≠key→f' x=f x
structure zog (f:Value→Option Value)(key:Value)(f':Value→Option Value):Prop where
 same:f' key=none
 other:∀x,x≠key→f' x=f x
section
variable {P:Program}{k:TypeId}{w:World}{b n:Nat}{f:Value→Option Value}
theorem FM.put {D:DataW Value}(h:FM P k D f)(hm:IsMap D)(K:Keyed P k){key:Value}{kl:Lit}(hk:keyOf P k key=some kl)(val:Value){f':Value→Option Value}(hp:zhe f key val f'):FM P k (D.put kl (.held val)) f':=by
 refine⟨λx l hx=>?_,λx l v z hx hf=>?_,λx hx=>?_⟩
 ·by_cases e:x=key
  ·subst e
   rw[hk]at hx;cases hx
   rw[hp.same,Maps.has_put_same hm (K.key hk)];rfl
  ·have hne:l≠kl:=λe'=>e (K.inj hx (e' ▸ hk))
   rw[hp.other _ e,Maps.has_put_other hne]
   exact h.has x l hx
 ·by_cases e:x=key
  ·subst e
   rw[hk]at hx;cases hx
   rw[hp.same]at hf;cases hf
   exact Maps.atKey_put_same hm (K.key hk) _ _
  ·have hne:l≠kl:=λe'=>e (K.inj hx (e' ▸ hk))
   rw[hp.other _ e]at hf
   rw[Maps.atKey_put_other hne]
   exact h.at_ x l v z hx hf
 ·by_cases e:x=key
  ·subst e;exact⟨kl,hk⟩
  ·rw[hp.other _ e]at hx;exact h.key x hx
theorem FM.del {D:DataW Value}(h:FM P k D f)(K:Keyed P k){key:Value}{kl:Lit}(hk:keyOf P k key=some kl){f':Value→Option Value}(hp:zog f key f'):FM P k (D.del kl) f':=by
 refine⟨λx l hx=>?_,λx l v z hx hf=>?_,λx hx=>?_⟩
 ·by_cases e:x=key
  ·subst e
   rw[hk]at hx;cases hx
   rw[hp.same,Maps.has_del_same];rfl
  ·have hne:l≠kl:=λe'=>e (K.inj hx (e' ▸ hk))
   rw[hp.other _ e,Maps.has_del_other hne]
   exact h.has x l hx
 ·by_cases e:x=key
  ·subst e
   rw[hp.same]at hf;cases hf
  ·have hne:l≠kl:=λe'=>e (K.inj hx (e' ▸ hk))
   rw[hp.other _ e]at hf
   rw[Maps.atKey_del_other hne]
   exact h.at_ x l v z hx hf
 ·by_cases e:x=key
  ·subst e;exact⟨kl,hk⟩
  ·rw[hp.other _ e]at hx;exact h.key x hx
theorem ztk {D:DataW Value}{R:Value→Option (DataW Value × List MemPlace)}(h:w.ownsMap P k R b n D):w.ownsMap P k R b (Maps.size D) D:=by
 obtain⟨es,clock,hb,F,_,rfl⟩:=h
 exact⟨es,clock,hb,F,by simp[Maps.size,length_sorted],rfl⟩
theorem z0o (w:World)(P:Program)(k:TypeId):fmap (w.alloc (.map #[] 0)) P k w.heap.size 0 (λ_=>none):=
 ⟨.map [],World.ownsMap_made w P k zgm,rfl,⟨λ_ _ _=>rfl,λ_ _ _ _ _ h=>(by cases h),λ_ h=>(by cases h)⟩⟩
theorem fmap.of_block {w':World}(h:fmap w P k b n f)(e:w'.heap[b]?=w.heap[b]?):fmap w' P k b n f:=by
 obtain⟨D,⟨es,clock,hb,r⟩,hs,hf⟩:=h
 exact⟨D,⟨es,clock,e.trans hb,r⟩,hs,hf⟩
theorem fmap.lt (h:fmap w P k b n f):b<w.heap.size:=by obtain⟨D,h,_⟩:=h;exact h.lt
theorem fmap.alloc (h:fmap w P k b n f)(o:Obj):fmap (w.alloc o) P k b n f:=h.of_block (RowKit.Below.heap_alloc w o b h.lt)
theorem fmap.drew (h:fmap w P k b n f):fmap w.drew P k b n f:=h.of_block rfl
theorem fmap.noCell (h:fmap w P k b n f)(o:Nat):w.cell? ⟨b,o,none⟩=none:=by
 obtain⟨D,⟨es,clock,hb,_⟩,_⟩:=h
 simp[World.cell?,hb]
theorem fmap.look (c:Bool){t e:TypeId}(h:fmap w P k b n f)(K:Keyed P k)(ht:P.underlying t=some (.map k e)){z:Value}(hz:(zeroValue e).run P w = .ok z w){key:Value}{kl:Lit}(hk:keyOf P k key=some kl) :
  (Instr.lookup t (.map (some b)) key c).run P w = .ok (if c then .tuple #[(f key).getD z,.bool (f key).isSome] else (f key).getD z) w:=by
 obtain⟨D,⟨es,clock,hb,F,_,rfl⟩,hs,hf⟩:=h
 have h1:=hf.has key kl hk
 rcases Maps.fit_look c K ht hz hb F hk with ⟨hrun,_,hat⟩|⟨e0,y,_,_,hrun,hRv,hat,_⟩
 ·rw[Maps.has_false_of_atKey hat]at h1
  have:f key=none:=by cases hh:f key with|none=>rfl|some _=>rw[hh]at h1;cases h1
  rw[hrun,this];rfl
 ·rw[Maps.has_true_of_atKey hat]at h1
  cases hh:f key with
  |none=>rw[hh]at h1;cases h1
  |some v=>
   have:=hf.at_ key kl v .nil hk hh
   rw[hat]at this
   unfold zgm at hRv
   cases hRv
   cases this
   rw[hrun];rfl
theorem fmap.len {t e:TypeId}(h:fmap w P k b n f)(ht:P.underlying t=some (.map k e))(ty:TypeId):(Builtin.len_ #[t] ty #[.map (some b)]).run P w = .ok (.int .i64 n) w:=by
 obtain⟨D,h1,hs,_⟩:=h
 rw[h1.len ht ty,hs]
theorem fmap.store {t e:TypeId}(h:fmap w P k b n f)(K:Keyed P k)(ht:P.underlying t=some (.map k e))(hn:n<maxLen){key:Value}{kl:Lit}(hk:keyOf P k key=some kl)(val:Value){f':Value→Option Value}(hp:zhe f key val f') :
  ∃w',(Instr.mapUpdate t (.map (some b)) key val).run P w = .ok () w'∧fmap w' P k b (if (f key).isSome then n else n+1) f'∧w.mapTurned w' b:=by
 obtain⟨D,h1,hs,hf⟩:=h
 obtain⟨w',hrun,h2,h3⟩:=h1.store K ht hn hk (rfl:zgm val=some (.held val,[]))
 refine⟨w',hrun,⟨_,?_,?_,hf.put h1.isMap K hk val hp⟩,h3⟩
 ·have:=ztk h2
  rw[Maps.size_put (h1.tidy K),hf.has key kl hk,hs]at this
  exact this
 ·rw[Maps.size_put (h1.tidy K),hf.has key kl hk,hs]
theorem fmap.drop {t e:TypeId}(h:fmap w P k b n f)(K:Keyed P k)(ht:P.underlying t=some (.map k e)){key:Value}{kl:Lit}(hk:keyOf P k key=some kl)(ty:TypeId){f':Value→Option Value}(hp:zog f key f') :
  ∃w',(Builtin.delete_ #[t,k] ty #[.map (some b),key]).run P w = .ok (.tuple #[]) w'∧fmap w' P k b (if (f key).isSome then n-1 else n) f'∧w.mapTurned w' b:=by
 obtain⟨D,h1,hs,hf⟩:=h
 obtain⟨w',hrun,h2,h3⟩:=h1.drop K ht hk ty
 have hd:=Maps.size_del (k:=kl) (h1.tidy K)
 rw[hf.has key kl hk,hs]at hd
 have e1:Maps.size (D.del kl)=if (f key).isSome then n-1 else n:=by
  split<;>simp_all<;>omega
 refine⟨w',hrun,⟨_,?_,e1,hf.del K hk hp⟩,h3⟩
 have:=ztk h2
 rw[e1]at this
 exact this
theorem zlb {w':World}(h:w.mapTurned w' b)(i:Nat)(hi:i≠b):w'.heap[i]?=w.heap[i]?:=by
 obtain⟨es,clock,es',clock',hb,rfl⟩:=h
 exact ChangeMaps.heap_setBlock_other hb _ hi
theorem zwj {w':World}(h:w.mapTurned w' b):w'.heap.size=w.heap.size:=by
 obtain⟨es,clock,es',clock',hb,rfl⟩:=h
 simp[ChangeMaps.setBlock]
def z0d (w:World)(P:Program)(k:TypeId)(b r n:Nat)(f:Value→Option Value)(left:Value→Bool)(cnt:Nat):Prop:=
 ∃D lf,w.ranges P k zgm b r n D lf cnt∧Maps.size D=n∧FM P k D f∧(∀x l,keyOf P k x=some l→lf l=left x)∧(∀x,left x=true→(f x).isSome=true)
theorem z0d.toMap {left:Value→Bool}{r cnt:Nat}(h:z0d w P k b r n f left cnt):fmap w P k b n f:=by
 obtain⟨D,lf,h1,h2,h3,_⟩:=h
 exact⟨D,h1.owns,h2,h3⟩
theorem z0d.of_block {w':World}{left:Value→Bool}{r cnt:Nat}(h:z0d w P k b r n f left cnt)(e:w'.heap[b]?=w.heap[b]?)(e':w'.heap[r]?=w.heap[r]?):z0d w' P k b r n f left cnt:=by
 obtain⟨D,lf,⟨es,clock,since,seen,c0,h1,h2,h3,h4,h5,h6⟩,r⟩:=h
 exact⟨D,lf,⟨es,clock,since,seen,c0,e.trans h1,h2,h3,h4,e'.trans h5,h6⟩,r⟩
theorem z0d.left_eq {left:Value→Bool}{r cnt:Nat}(h:z0d w P k b r n f left cnt):w.rangeLeft b r=cnt:=by
 obtain⟨D,lf,h1,_⟩:=h
 exact h1.left_eq
theorem fmap.range {t e:TypeId}(h:fmap w P k b n f)(K:Keyed P k)(ht:P.underlying t=some (.map k e)) :
  ∃w',(Instr.range t (.map (some b))).run P w = .ok (.pointer (some ⟨w.heap.size,0,none⟩)) w'∧z0d w' P k b w.heap.size n f (λx=>(f x).isSome) n∧w.grownBy w' none∧w'.heap.size=w.heap.size+1:=by
 obtain⟨D,h1,hs,hf⟩:=h
 obtain⟨w',hrun,h2,h3,h4⟩:=h1.range K ht
 rw[hs]at h2
 exact⟨w',hrun,⟨D,_,h2,hs,hf,λx l hx=>hf.has x l hx,λx hx=>hx⟩,h3,h4⟩
open Classical in
theorem z0d.next {left:Value→Bool}{r cnt:Nat}(h:z0d w P k b r n f left cnt)(K:Keyed P k)(ty:TypeId) :
  (cnt=0∧(∀x,left x=false)∧(Instr.next (.pointer (some ⟨r,0,none⟩)) false ty).run P w = .ok (.tuple #[.bool false]) w)∨
  ∃key v w' cnt',left key=true∧f key=some v∧(Instr.next (.pointer (some ⟨r,0,none⟩)) false ty).run P w = .ok (.tuple #[.bool true,key,v]) w'∧
   (∃left',z0d w' P k b r n f left' cnt'∧left' key=false∧∀x,x≠key→left' x=left x)∧cnt'<cnt∧w.grownBy w' (some r)∧w'.heap.size=w.heap.size∧(Instr.entry (.pointer (some ⟨r,0,none⟩))).run P w' = .ok (.tuple #[key,v]) w':=by
 obtain⟨D,lf,h1,hs,hf,hl,hi⟩:=h
 rcases h1.next K ty with ⟨h0,hl0,hrun⟩|⟨key,v,kl,y,w',cnt',hkey,hlk,hv,hat,hrun,hrg,hlt,hgr,hsz,hen⟩
 ·refine Or.inl ⟨h0,λx=>?_,hrun⟩
  cases e:left x with
  |false=>rfl
  |true=>
   obtain⟨l,hx⟩:=hf.key x (hi x e)
   rw[← hl x l hx,hl0]at e;cases e
 ·have hlk':=hl key kl hkey ▸ hlk
  have hsome:=hi key hlk'
  obtain⟨v',hv'⟩:=Option.isSome_iff_exists.1 hsome
  have ha:=hf.at_ key kl v' .nil hkey hv'
  rw[hat]at ha
  unfold zgm at hv
  cases hv
  cases ha
  refine Or.inr ⟨key,v,w',cnt',hlk',hv',hrun,⟨λx=>left x && !decide (x=key),⟨D,_,hrg,hs,hf,λx l hx=>?_,λx hx=>hi x (by simp at hx;exact hx.1)⟩,by simp,λx hx=>by simp[hx]⟩,hlt,hgr,hsz,hen⟩
  show (lf l && !l.sameKey kl)=(left x && !decide (x=key))
  rw[hl x l hx]
  by_cases e:x=key
  ·subst e
   rw[hkey]at hx;cases hx
   rw[WideAt.sameKey_self (K.key hkey)];simp
  ·have:l≠kl:=λe'=>e (K.inj hx (e' ▸ hkey))
   rw[Maps.sameKey_ne this];simp[e]
end
section
variable {P:Program}(w:World){ops:Array Oper}{rest:List Oper}{o:Oper}{a:Act}{Q:Exit→Act→World→Prop}
theorem z8 (hg:Region.wanted o (yielded ops a.tmps)=true)(m x:Operand)(t:TypeId)(hop:o.op=Op.lookup t m x true)
  (k e:TypeId) (K:Keyed P k) (ht:P.underlying t=some (.map k e)) {z:Value} (hz:(zeroValue e).run P w = .ok z w) (b n:Nat) (f:Value→Option Value)
  (hm:a.eval m = .map (some b)) (hown:fmap w P k b n f) (key:Value) (kl:Lit) (hx:a.eval x=key) (hkey:keyOf P k key=some kl) (r:Option Value) (hr:f key=r)
  (hK:wpList P ops Q rest (a.put o.dst (.tuple #[r.getD z,.bool r.isSome])) w) :
  wpList P ops Q (o::rest) a w:=by
 refine BigFrame.wpList_want hg λK' hK'=>?_
 have hrun:=hown.look true K ht hz hkey
 rw[hr]at hrun
 simp only[if_true]at hrun
 unfold Oper.wp
 simp[execOp,hop,hm,hx,hrun,Result.andThen]
 exact hK' _ _ hK
theorem z7d (hg:Region.wanted o (yielded ops a.tmps)=true)(m x:Operand)(t:TypeId)(hop:o.op=Op.lookup t m x false)
  (k e:TypeId) (K:Keyed P k) (ht:P.underlying t=some (.map k e)) {z:Value} (hz:(zeroValue e).run P w = .ok z w) (b n:Nat) (f:Value→Option Value)
  (hm:a.eval m = .map (some b)) (hown:fmap w P k b n f) (key:Value) (kl:Lit) (hx:a.eval x=key) (hkey:keyOf P k key=some kl) (v:Value) (hr:(f key).getD z=v)
  (hK:wpList P ops Q rest (a.put o.dst v) w) :
  wpList P ops Q (o::rest) a w:=by
 refine BigFrame.wpList_want hg λK' hK'=>?_
 have hrun:=hown.look false K ht hz hkey
 rw[hr]at hrun
 simp only[Bool.false_eq_true,if_false]at hrun
 unfold Oper.wp
 simp[execOp,hop,hm,hx,hrun,Result.andThen]
 exact hK' _ _ hK
theorem zhg (hg:Region.wanted o (yielded ops a.tmps)=true)(m x:Operand)(t k:TypeId)(hop:o.op=Op.call { callee:=Callee.builtin Builtin.delete,args:=#[m,x],argTypes:=#[t,k] })
  (e:TypeId) (K:Keyed P k) (ht:P.underlying t=some (.map k e)) (b n:Nat) (f:Value→Option Value)
  (hm:a.eval m = .map (some b)) (hown:fmap w P k b n f) (key:Value) (kl:Lit) (hx:a.eval x=key) (hkey:keyOf P k key=some kl) {f':Value→Option Value} (hp:zog f key f')
  (hK:∀w',fmap w' P k b (if (f key).isSome then n-1 else n) f'→w.mapTurned w' b→wpList P ops Q rest (a.put o.dst (.tuple #[])) w') :
  wpList P ops Q (o::rest) a w:=by
 refine BigFrame.wpList_want hg λK' hK'=>?_
 obtain⟨w',hrun,r1,r2⟩:=hown.drop K ht hkey o.type hp
 unfold Oper.wp
 simp[execOp,hop,resolve,invoke,builtin,hm,hx,hrun,Result.andThen]
 exact hK' _ _ (hK w' r1 r2)
theorem zuf (hg:Region.wanted o (yielded ops a.tmps)=true)(m:Operand)(t:TypeId)(hop:o.op=Op.call { callee:=Callee.builtin Builtin.len,args:=#[m],argTypes:=#[t] })
  (k e:TypeId) (ht:P.underlying t=some (.map k e)) (b n:Nat) (f:Value→Option Value) (hm:a.eval m = .map (some b)) (hown:fmap w P k b n f)
  (hK:wpList P ops Q rest (a.put o.dst (.int .i64 n)) w) :
  wpList P ops Q (o::rest) a w:=by
 refine BigFrame.wpList_want hg λK' hK'=>?_
 unfold Oper.wp
 simp[execOp,hop,resolve,invoke,builtin,hm,hown.len ht o.type,Result.andThen]
 exact hK' _ _ hK
theorem z7g (hg:Region.wanted o (yielded ops a.tmps)=true)(m:Operand)(t:TypeId)(hop:o.op=Op.range t m)(k e:TypeId)(K:Keyed P k)(ht:P.underlying t=some (.map k e))(b n:Nat)(f:Value→Option Value)
  (hm:a.eval m = .map (some b)) (hown:fmap w P k b n f)
  (hK:∀w',z0d w' P k b w.heap.size n f (λx=>(f x).isSome) n→w.grownBy w' none→w'.heap.size=w.heap.size+1→wpList P ops Q rest (a.put o.dst (.pointer (some ⟨w.heap.size,0,none⟩))) w') :
  wpList P ops Q (o::rest) a w:=by
 refine BigFrame.wpList_want hg λK' hK'=>?_
 obtain⟨w',hrun,r1,r2,r3⟩:=hown.range K ht
 unfold Oper.wp
 simp[execOp,hop,hm,hrun,Result.andThen]
 exact hK' _ _ (hK w' r1 r2 r3)
theorem zrh {α β:Type}(hg:Region.wanted o (yielded ops a.tmps)=true)(it:Operand)(hop:o.op=Op.next it false)(k:TypeId)(K:Keyed P k)(mkK:α→Value)(mkV:β→Value)
  (b r n:Nat) (f:Value→Option Value) (left:Value→Bool) (cnt:Nat) (inv:∀key v,f key=some v→∃x c,key=mkK x∧v=mkV c)
  (hit:a.eval it = .pointer (some ⟨r,0,none⟩)) (h:z0d w P k b r n f left cnt)
  (hDone:cnt=0→(∀x,left x=false)→wpList P ops Q rest (a.put o.dst (.tuple #[.bool false])) w)
  (hMore:∀(x:α) (c:β) (w':World) (cnt':Nat),left (mkK x)=true→f (mkK x)=some (mkV c)→∀left',z0d w' P k b r n f left' cnt'→left' (mkK x)=false→(∀z,z≠mkK x→left' z=left z)→cnt'<cnt→
   w.grownBy w' (some r)→w'.heap.size=w.heap.size→(Instr.entry (.pointer (some ⟨r,0,none⟩))).run P w' = .ok (.tuple #[mkK x,mkV c]) w'→wpList P ops Q rest (a.put o.dst (.tuple #[.bool true,mkK x,mkV c])) w') :
  wpList P ops Q (o::rest) a w:=by
 refine BigFrame.wpList_want hg λK' hK'=>?_
 unfold Oper.wp
 rcases h.next K o.type with ⟨h0,hl,hrun⟩|⟨key,v,w',cnt',hlk,hv,hrun,⟨left',hrg,hl1,hl2⟩,hlt,hgr,hsz,hen⟩
 ·simp[execOp,hop,hit,hrun,Result.andThen]
  exact hK' _ _ (hDone h0 hl)
 ·obtain⟨x,c,rfl,rfl⟩:=inv key v hv
  simp[execOp,hop,hit,hrun,Result.andThen]
  exact hK' _ _ (hMore x c w' cnt' hlk hv left' hrg hl1 hl2 hlt hgr hsz hen)
end
end
section
open Go.RowKit
theorem ze {p:Prop}(h:p):Hid p:=h
structure Kp (S:Nat→Prop)(w w':World):Prop where
 os:w'.os=w.os
 tape:w'.tape=w.tape
 output:w'.output=w.output
 size:w.heap.size≤w'.heap.size
 block:∀k,k<w.heap.size→¬S k→w'.heap[k]?=w.heap[k]?
section
variable {S S':Nat→Prop}{w w1 w2:World}
theorem Kp.refl (S:Nat→Prop)(w:World):Kp S w w:=⟨rfl,rfl,rfl,Nat.le_refl _,λ_ _ _=>rfl⟩
theorem Kp.trans (h:Kp S w w1)(h':Kp S' w1 w2)(hs:∀k,k<w.heap.size→S' k→S k):Kp S w w2:=
 ⟨h'.os.trans h.os,h'.tape.trans h.tape,h'.output.trans h.output,Nat.le_trans h.size h'.size,λk hk hn=>
  (h'.block k (Nat.lt_of_lt_of_le hk h.size) (λe=>hn (hs k hk e))).trans (h.block k hk hn)⟩
theorem Kp.mono (h:Kp S w w1)(hs:∀k,k<w.heap.size→S k→S' k):Kp S' w w1:=
 ⟨h.os,h.tape,h.output,h.size,λk hk hn=>h.block k hk (λe=>hn (hs k hk e))⟩
theorem Kp.of_below (h:Below w.heap.size w w1)(S:Nat→Prop):Kp S w w1:=⟨h.os,h.tape,h.output,h.size,λk hk _=>h.block k hk⟩
theorem Kp.of_grown {row:Option Nat}(h:w.grownBy w1 row)(hs:∀k,row=some k→S k):Kp S w w1:=
 ⟨h.os,h.tape,h.output,h.size,λk hk hn=>h.block k hk (λe=>hn (hs k e.symm))⟩
theorem Kp.of_turned {b:Nat}(h:w.mapTurned w1 b)(hs:S b):Kp S w w1:=by
 refine⟨?_,?_,?_,Nat.le_of_eq (zwj h).symm,λk _ hn=>zlb h k (λe=>hn (e ▸ hs))⟩ <;>
  (obtain⟨es,clock,es',clock',hb,rfl⟩:=h;rfl)
theorem Kp.alloc (S:Nat→Prop)(w:World)(o:Obj):Kp S w (w.alloc o):=⟨rfl,rfl,rfl,by simp,λk hk _=>Below.heap_alloc w o k hk⟩
theorem Kp.drew (S:Nat→Prop)(w:World):Kp S w w.drew:=⟨rfl,rfl,rfl,Nat.le_refl _,λ_ _ _=>rfl⟩
theorem Kp.drewN (S:Nat→Prop)(w:World)(n:Nat):Kp S w (w.drewN n):=by
 refine⟨rfl,rfl,rfl,Nat.le_refl _,λ_ _ _=>rfl⟩
theorem Kp.setCell (w:World)(a:Addr)(v:Value)(hs:S a.block):Kp S w (w.setCell a v):=
 ⟨rfl,rfl,rfl,by simp[World.setCell],λk _ hn=>Below.heap_setCell w a v k (λe=>hn (e ▸ hs))⟩
theorem Kp.cell (h:Kp S w w1){a:Addr}(hlt:a.block<w.heap.size)(hn:¬S a.block):w1.cell? a=w.cell? a:=World.cell?_of_block (w:=w) (h.block a.block hlt hn)
theorem Kp.frozen (h:Kp S w w1){a:Addr}(hlt:a.block<w.heap.size)(hn:¬S a.block):w1.frozen? a=w.frozen? a:=World.frozen?_of_block (w:=w) (h.block a.block hlt hn)
theorem Kp.fmap {P:Program}{k b n:Nat}{f:Value→Option Value}(h:Kp S w w1)(hm:fmap w P k b n f)(hn:¬S b):fmap w1 P k b n f:=hm.of_block (h.block b hm.lt hn)
end
end
section
open Go.RowKit
structure YV where
 key:ByteArray
 t:Int
 gone:Bool
 s:ByteArray
def zo (l:List YV):List Value:=l.flatMap λy=>[.string y.key,.int .i64 y.t,.bool y.gone,.string y.s]
theorem zjf (l:List YV):(zo l).length=l.length*4:=by
 induction l with
 |nil=>rfl
 |cons a r ih=>simp[zo]at ih ⊢;omega
theorem zyg:∀(l:List YV) (j:Nat) (hj:j<l.length),(zo l)[j*4]?=some (.string l[j].key)∧(zo l)[j*4+1]?=some (.int .i64 l[j].t)∧(zo l)[j*4+2]?=some (.bool l[j].gone)∧(zo l)[j*4+3]?=some (.string l[j].s)
 |a::r,0,_=>by simp[zo]
 |a::r,j+1,hj=>by
  have ih:=zyg r j (by simpa using hj)
  have e:zo (a::r)=[.string a.key,.int .i64 a.t,.bool a.gone,.string a.s]++zo r:=by simp[zo]
  have f:∀o,(zo (a::r))[(j+1)*4+o]?=(zo r)[j*4+o]?:=λo=>by
   rw[e,List.getElem?_append_right (by simp;omega)]
   congr 1
   simp;omega
  have f0:=f 0
  simp only[Nat.add_zero]at f0
  rw[f0,f 1,f 2,f 3]
  simpa using ih
structure VS (w:World)(v:Value)(l:List YV)(g cap:Nat):Prop where
 val:v = .slice (some ⟨g,0,none⟩) l.length cap
 c0:∀j (hj:j<l.length),w.cell? ⟨g,j*4,none⟩=some (.string l[j].key)
 c1:∀j (hj:j<l.length),w.cell? ⟨g,j*4+1,none⟩=some (.int .i64 l[j].t)
 c2:∀j (hj:j<l.length),w.cell? ⟨g,j*4+2,none⟩=some (.bool l[j].gone)
 c3:∀j (hj:j<l.length),w.cell? ⟨g,j*4+3,none⟩=some (.string l[j].s)
theorem zxh {w:World}{base e:Nat}{v:Value}{l:List YV}(h:w.ownsRow base e 4 v l.length (zo l)):(v = .slice none 0 0∧l=[])∨∃g cap,VS w v l g cap:=by
 rcases h.2 with ⟨rfl,h0⟩|⟨g,cap,cur,rfl,hb,hg,hn,_,hcs,ht⟩
 ·exact Or.inl ⟨rfl,List.eq_nil_of_length_eq_zero h0⟩
 ·have key:∀i u,(zo l)[i]?=some u→w.cell? ⟨g,i,none⟩=some u:=λi u hu=>by
   have:w.cell? ⟨g,i,none⟩=cur[i]?:=by simp[World.cell?,hg]
   rw[this,← Array.getElem?_toList]
   rw[← ht,List.getElem?_take]at hu
   split at hu
   ·exact hu
   ·cases hu
  exact Or.inr ⟨g,cap,rfl,λj hj=>key _ _ (zyg l j hj).1,λj hj=>key _ _ (zyg l j hj).2.1,λj hj=>key _ _ (zyg l j hj).2.2.1,λj hj=>key _ _ (zyg l j hj).2.2.2⟩
def zyb (l:List YV)(key:ByteArray):Option Nat:=l.findIdx? (λy=>y.key.toList == key.toList)
section
variable {R:Ending→World→Prop}
set_option maxRecDepth 20000 in
set_option maxHeartbeats 400000 in
theorem z5v (tb to:Nat)(key:ByteArray)(a:Option Addr)(cap:Nat)(w:World)(c2:w.cell? ⟨tb,to+2,none⟩=some (.slice a 0 cap))(hR:R (.returned (.int .i64 (-1))) w) :
  Calls Tryz.prog 159 #[.pointer (some ⟨tb,to,none⟩),.string key] w R:=by
 go_enter Tryz.func159,Tryz.ntmps159
 go_wp2
 go_loop [5] (λi=>i = .int .i64 0) (λ_=>0)
 case atStart=>rfl
 case round=>
  subst hrel
  go_wp2
  exact hR
set_option maxRecDepth 20000 in
set_option maxHeartbeats 400000 in
theorem z6v (tb to:Nat)(key:ByteArray)(l:List YV)(g cap:Nat)(w:World)(hl:l.length<1000000)(c2:w.cell? ⟨tb,to+2,none⟩=some (.slice (some ⟨g,0,none⟩) l.length cap))(hc:∀j (hj:j<l.length),w.cell? ⟨g,j*4,none⟩=some (.string l[j].key))
  (h0:zyb l key=none→R (.returned (.int .i64 (-1))) w) (h1:∀i:Nat,zyb l key=some i→R (.returned (.int .i64 i)) w) :
  Calls Tryz.prog 159 #[.pointer (some ⟨tb,to,none⟩),.string key] w R:=by
 have H0:Hid _:=h0
 have H1:Hid _:=h1
 have HL:Hid _:=hl
 have HC:Hid _:=hc
 clear h0 h1 hl hc
 go_enter Tryz.func159,Tryz.ntmps159
 go_wp2
 go_loop [5] (λi=>∃k:Nat,k≤l.length∧i = .int .i64 k∧∀j (hj:j<l.length),j<k→(l[j].key.toList == key.toList)=false) (λi=>l.length-(intOf i).toNat)
 case atStart=>exact⟨0,Nat.zero_le _,rfl,λj _ h=>by omega⟩
 case round=>
  obtain⟨k,hk,rfl,hno⟩:=hrel
  have HN:Hid _:=hno
  clear hno
  by_cases hlt:k<l.length
  ·have hck:=HC.out k hlt
   have hlt':(k:Int)<l.length:=by omega
   have hk1:(k:Int)≤1000000:=by have:=HL.out;omega
   generalize hkey:l[k].key=kk at hck
   go_wp2
   ·refine H1.out k ?_
    rw[zyb,List.findIdx?_eq_some_iff_getElem]
    exact⟨hlt,by rw[hkey];assumption,λj hj=>by simp only[HN.out j (by omega) hj];simp⟩
   ·go_round
    case rel=>
     refine⟨k+1,by omega,by go_num,λj hj hjk=>?_⟩
     by_cases e:j=k
     ·subst e;rw[hkey];assumption
     ·exact HN.out j hj (by omega)
    case measure=>simp[intOf];omega
  ·go_wp2
   refine H0.out ?_
   rw[zyb,List.findIdx?_eq_none_iff]
   intro y hy
   obtain⟨j,hj,rfl⟩:=List.getElem_of_mem hy
   exact HN.out j hj (by omega)
theorem zve {base e:Nat}(tb to:Nat)(key:ByteArray)(l:List YV)(v:Value)(w:World)(hl:l.length<1000000)(c2:w.cell? ⟨tb,to+2,none⟩=some v)(hrow:w.ownsRow base e 4 v l.length (zo l))
  (h0:zyb l key=none→R (.returned (.int .i64 (-1))) w) (h1:∀i:Nat,zyb l key=some i→R (.returned (.int .i64 i)) w) :
  Calls Tryz.prog 159 #[.pointer (some ⟨tb,to,none⟩),.string key] w R:=by
 rcases zxh hrow with ⟨rfl,rfl⟩|⟨g,cap,hv⟩
 ·exact z5v tb to key none 0 w c2 (h0 rfl)
 ·have:=hv.val;subst this
  exact z6v tb to key l g cap w hl c2 hv.c0 h0 h1
end
end
section
open Go.RowKit
def zkh (y:YV)(t:Int)(key:ByteArray):Bool:=(y.key.toList == key.toList) && decide (y.t≤t)
structure z8g (l:List YV)(t:Int)(key:ByteArray)(k b:Nat):Prop where
 lt:b<l.length
 ltk:b<k
 fit:zkh l[b] t key=true
 top:∀j (hj:j<l.length),j<k→zkh l[j] t key=true→l[j].t≤l[b].t
def z0f (l:List YV)(t:Int)(key:ByteArray)(k:Nat):Prop:=∀j (hj:j<l.length),j<k→zkh l[j] t key=false
theorem z0f.skip {l:List YV}{t:Int}{key:ByteArray}{k:Nat}(h:z0f l t key k)(hk:k<l.length)(hf:zkh l[k] t key=false):z0f l t key (k+1):=λj hj hjk=>by
 by_cases e:j=k
 ·subst e;exact hf
 ·exact h j hj (by omega)
theorem z0f.new {l:List YV}{t:Int}{key:ByteArray}{k:Nat}(h:z0f l t key k)(hk:k<l.length)(hf:zkh l[k] t key=true):z8g l t key (k+1) k:=
 ⟨hk,by omega,hf,λj hj hjk hfj=>by
  by_cases e:j=k
  ·subst e;omega
  ·rw[h j hj (by omega)]at hfj;cases hfj⟩
theorem z8g.skip {l:List YV}{t:Int}{key:ByteArray}{k b:Nat}(h:z8g l t key k b)(hk:k<l.length)(hf:zkh l[k] t key=false):z8g l t key (k+1) b:=
 ⟨h.lt,by have:=h.ltk;omega,h.fit,λj hj hjk hfj=>by
  by_cases e:j=k
  ·subst e;rw[hf]at hfj;cases hfj
  ·exact h.top j hj (by omega) hfj⟩
theorem z8g.keep {l:List YV}{t:Int}{key:ByteArray}{k b:Nat}(h:z8g l t key k b)(hk:k<l.length)(hb:b<l.length)(hle:¬l[b].t<l[k].t):z8g l t key (k+1) b:=
 ⟨h.lt,by have:=h.ltk;omega,h.fit,λj hj hjk hfj=>by
  by_cases e:j=k
  ·subst e;omega
  ·exact h.top j hj (by omega) hfj⟩
theorem z8g.new {l:List YV}{t:Int}{key:ByteArray}{k b:Nat}(h:z8g l t key k b)(hk:k<l.length)(hb:b<l.length)(hf:zkh l[k] t key=true)(hlt:l[b].t<l[k].t):z8g l t key (k+1) k:=
 ⟨hk,by omega,hf,λj hj hjk hfj=>by
  by_cases e:j=k
  ·subst e;omega
  ·have:=h.top j hj (by omega) hfj;omega⟩
theorem VS.kept {w w':World}{v:Value}{l:List YV}{g cap:Nat}(h:VS w v l g cap)(hk:Kp (λ_=>False) w w'):VS w' v l g cap:=
 ⟨h.val,λj hj=>(hk.cell (World.block_lt_of_cell? w _ (h.c0 j hj)) (λe=>e)).trans (h.c0 j hj),λj hj=>(hk.cell (World.block_lt_of_cell? w _ (h.c1 j hj)) (λe=>e)).trans (h.c1 j hj),
  λj hj=>(hk.cell (World.block_lt_of_cell? w _ (h.c2 j hj)) (λe=>e)).trans (h.c2 j hj),λj hj=>(hk.cell (World.block_lt_of_cell? w _ (h.c3 j hj)) (λe=>e)).trans (h.c3 j hj)⟩
section
variable {R:Ending→World→Prop}
set_option maxRecDepth 20000 in
set_option maxHeartbeats 400000 in
theorem zny (a:Option Addr)(cap:Nat)(t:Int)(key:ByteArray)(w:World)(hR:R (.returned (.tuple #[.string ⟨#[]⟩,.bool false])) w) :
  Calls Tryz.prog 152 #[.slice a 0 cap,.int .i64 t,.string key] w R:=by
 go_enter Tryz.func152,Tryz.ntmps152
 go_wp2
 go_loop [8,9] (λb i=>b = .int .i64 (-1)∧i = .int .i64 0) (λ_ _=>0)
 case atStart=>exact⟨rfl,rfl⟩
 case round=>
  obtain⟨rfl,rfl⟩:=hrel
  go_wp2
  exact hR
set_option maxRecDepth 20000 in
set_option maxHeartbeats 2000000 in
theorem ze1 (l:List YV)(g cap:Nat)(t:Int)(key:ByteArray)(w:World)(hl:l.length<1000000)(hv:VS w (.slice (some ⟨g,0,none⟩) l.length cap) l g cap)
  (h0:z0f l t key l.length→∀w',Kp (λ_=>False) w w'→R (.returned (.tuple #[.string ⟨#[]⟩,.bool false])) w')
  (h1:∀b (hb:b<l.length),z8g l t key l.length b→l[b].gone=true→∀w',Kp (λ_=>False) w w'→R (.returned (.tuple #[.string ⟨#[]⟩,.bool false])) w')
  (h2:∀b (hb:b<l.length),z8g l t key l.length b→l[b].gone=false→∀w',Kp (λ_=>False) w w'→R (.returned (.tuple #[.string l[b].s,.bool true])) w') :
  Calls Tryz.prog 152 #[.slice (some ⟨g,0,none⟩) l.length cap,.int .i64 t,.string key] w R:=by
 have H0:Hid _:=h0
 have H1:Hid _:=h1
 have H2:Hid _:=h2
 have HL:Hid _:=hl
 have HV:Hid (VS w (.slice (some ⟨g,0,none⟩) l.length cap) l g cap):=hv
 clear h0 h1 h2 hl hv
 go_enter Tryz.func152,Tryz.ntmps152
 go_wp2
 go_loopw [8,9] (λvb vi wr=>∃k:Nat,k≤l.length∧vi = .int .i64 k∧Kp (λ_=>False) w wr∧((vb = .int .i64 (-1)∧z0f l t key k)∨∃b:Nat,vb = .int .i64 b∧z8g l t key k b)) (λ_ vi _=>l.length-(intOf vi).toNat)
 case atStart=>exact⟨0,Nat.zero_le _,rfl,Kp.refl _ _,Or.inl ⟨rfl,λj _ h=>by omega⟩⟩
 case round=>
  obtain⟨k,hk,rfl,hkp,hb⟩:=hrel
  have HK:Hid (Kp (λ_=>False) w wr):=hkp
  have HVR:Hid (VS wr (.slice (some ⟨g,0,none⟩) l.length cap) l g cap):=HV.out.kept hkp
  clear hkp
  by_cases hlt:k<l.length
  ·have hc0:=HVR.out.c0 k hlt
   have hc1:=HVR.out.c1 k hlt
   have hlt':(k:Int)<l.length:=by omega
   have hk1:(k:Int)≤1000000:=by have:=HL.out;omega
   have HF:Hid (zkh l[k] t key=((l[k].key.toList == key.toList) && decide (l[k].t≤t))):=rfl
   generalize hkk:l[k].key=kk at hc0
   generalize htt:l[k].t=tt at hc1
   rw[hkk,htt]at HF
   have HTT:Hid (l[k].t=tt):=htt
   clear hkk htt
   cases he:(kk.toList == key.toList)
   ·have hf:Hid (zkh l[k] t key=false):=by show _=_;rw[HF.out,he];rfl
    rcases hb with ⟨rfl,hno⟩|⟨b,rfl,hbest⟩
    ·have HNO:Hid _:=hno
     clear hno
     go_wp2_with fail
     go_quiet (fail)
     go_wp2_with fail
     go_roundw
     case rel=>exact⟨k+1,by omega,by go_num,HK.out.trans (Kp.drewN _ _ _) (λ_ _ h=>h),Or.inl ⟨rfl,z0f.skip HNO.out hlt hf.out⟩⟩
     case measure=>simp[intOf];omega
    ·have HBE:Hid _:=hbest
     clear hbest
     go_wp2_with fail
     go_quiet (fail)
     go_wp2_with fail
     go_roundw
     case rel=>exact⟨k+1,by omega,by go_num,HK.out.trans (Kp.drewN _ _ _) (λ_ _ h=>h),Or.inr ⟨b,rfl,HBE.out.skip hlt hf.out⟩⟩
     case measure=>simp[intOf];omega
   ·by_cases ht:tt≤t
    ·have hf:Hid (zkh l[k] t key=true):=by show _=_;rw[HF.out,he];simpa using ht
     rcases hb with ⟨rfl,hno⟩|⟨b,rfl,hbest⟩
     ·have HNO:Hid _:=hno
      clear hno
      go_wp2_with fail
      go_quiet (fail)
      go_wp2_with fail
      go_roundw
      case rel=>exact⟨k+1,by omega,by go_num,HK.out.trans (Kp.drewN _ _ _) (λ_ _ h=>h),Or.inr ⟨k,rfl,z0f.new HNO.out hlt hf.out⟩⟩
      case measure=>simp[intOf];omega
     ·have HBE:Hid _:=hbest
      have hblt:=hbest.lt
      have hcb:=HVR.out.c1 b hblt
      have hb':(b:Int)<l.length:=by omega
      have hb0:¬(b:Int)<0:=by omega
      have hbd:decide ((b:Int)<0)=false:=by simp
      generalize htb:l[b].t=tb at hcb
      have HTB:Hid _:=htb
      clear hbest htb
      by_cases hgt:tb<tt
      ·go_wp2_with fail
       go_quiet (fail)
       go_wp2_with fail
       go_roundw
       case rel=>exact⟨k+1,by omega,by go_num,HK.out.trans (Kp.drewN _ _ _) (λ_ _ h=>h),Or.inr ⟨k,rfl,HBE.out.new hlt hblt hf.out (by rw[HTB.out,HTT.out];exact hgt)⟩⟩
       case measure=>simp[intOf];omega
      ·go_wp2_with fail
       go_quiet (fail)
       go_wp2_with fail
       go_roundw
       case rel=>exact⟨k+1,by omega,by go_num,HK.out.trans (Kp.drewN _ _ _) (λ_ _ h=>h),Or.inr ⟨b,rfl,HBE.out.keep hlt hblt (by rw[HTB.out,HTT.out];omega)⟩⟩
       case measure=>simp[intOf];omega
    ·have hf:Hid (zkh l[k] t key=false):=by show _=_;rw[HF.out,he];simpa using ht
     have htd:decide (tt≤t)=false:=by simpa using ht
     rcases hb with ⟨rfl,hno⟩|⟨b,rfl,hbest⟩
     ·have HNO:Hid _:=hno
      clear hno
      go_wp2_with fail
      go_quiet (fail)
      go_wp2_with fail
      go_roundw
      case rel=>exact⟨k+1,by omega,by go_num,HK.out.trans (Kp.drewN _ _ _) (λ_ _ h=>h),Or.inl ⟨rfl,z0f.skip HNO.out hlt hf.out⟩⟩
      case measure=>simp[intOf];omega
     ·have HBE:Hid _:=hbest
      clear hbest
      go_wp2_with fail
      go_quiet (fail)
      go_wp2_with fail
      go_roundw
      case rel=>exact⟨k+1,by omega,by go_num,HK.out.trans (Kp.drewN _ _ _) (λ_ _ h=>h),Or.inr ⟨b,rfl,HBE.out.skip hlt hf.out⟩⟩
      case measure=>simp[intOf];omega
  ·have hke:k=l.length:=by omega
   subst hke
   rcases hb with ⟨rfl,hno⟩|⟨b,rfl,hbest⟩
   ·have HNO:Hid _:=hno
    clear hno
    go_wp2_with fail
    exact H0.out HNO.out _ HK.out
   ·have HBE:Hid _:=hbest
    have hblt:=hbest.lt
    have hcg:=HVR.out.c2 b hblt
    have hcs:=HVR.out.c3 b hblt
    have hb':(b:Int)<l.length:=by omega
    have hb0:¬(b:Int)<0:=by omega
    have h3:Hid _:=H2.out b hblt HBE.out
    have h4:Hid _:=H1.out b hblt HBE.out
    generalize l[b].s=ss at hcs h3
    clear hbest
    cases hg:l[b].gone
    ·rw[hg]at hcg
     go_wp2_with fail
     exact h3.out hg _ HK.out
    ·rw[hg]at hcg
     go_wp2_with fail
     exact h4.out hg _ HK.out
def zcm (l:List YV)(t:Int)(key:ByteArray)(r:ByteArray × Bool):Prop:=
 (z0f l t key l.length∧r=(⟨#[]⟩,false))∨∃b,∃hb:b<l.length,z8g l t key l.length b∧((l[b].gone=true∧r=(⟨#[]⟩,false))∨(l[b].gone=false∧r=(l[b].s,true)))
theorem z9m {base e:Nat}(l:List YV)(v:Value)(t:Int)(key:ByteArray)(w:World)(hl:l.length<1000000)(hrow:w.ownsRow base e 4 v l.length (zo l))
  (hR:∀r w',zcm l t key r→Kp (λ_=>False) w w'→R (.returned (.tuple #[.string r.1,.bool r.2])) w') :
  Calls Tryz.prog 152 #[v,.int .i64 t,.string key] w R:=by
 rcases zxh hrow with ⟨rfl,rfl⟩|⟨g,cap,hv⟩
 ·exact zny none 0 t key w (hR (⟨#[]⟩,false) w (Or.inl ⟨λj hj=>by simp at hj,rfl⟩) (Kp.refl _ _))
 ·have:=hv.val;subst this
  exact ze1 l g cap t key w hl hv (λhn w' hk=>hR (⟨#[]⟩,false) w' (Or.inl ⟨hn,rfl⟩) hk) (λb hb hbest hg w' hk=>hR (⟨#[]⟩,false) w' (Or.inr ⟨b,hb,hbest,Or.inl ⟨hg,rfl⟩⟩) hk)
   (λb hb hbest hg w' hk=>hR (l[b].s,true) w' (Or.inr ⟨b,hb,hbest,Or.inr ⟨hg,rfl⟩⟩) hk)
end
end
section
open Go.RowKit Go.Maps
theorem zld:Keyed Tryz.prog 3:=int_keyed Tryz.underlying3
theorem zdd:Keyed Tryz.prog 9:=string_keyed Tryz.underlying9
theorem zdf (w:World):(zeroValue 129).run Tryz.prog w = .ok (.pointer none) w:=by kernel_rfl
theorem zil (w:World):(zeroValue 138).run Tryz.prog w = .ok (.agg #[.string ByteArray.empty,.bool false]) w:=by kernel_rfl
theorem z0h (w:World):(zeroValue 26).run Tryz.prog w = .ok (.slice none 0 0) w:=by kernel_rfl
section
variable {R:Ending→World→Prop}
set_option maxHeartbeats 400000 in
theorem zgu (p mo n:Nat)(f:Value→Option Value)(tx:Int)(w:World)(c2:w.cell? ⟨p,7,none⟩=some (.map (some mo)))(hown:fmap w Tryz.prog 3 mo n f)(hwx:(Lit.int .i64 tx).wf=true)(hf:f (.int .i64 tx)=none)
  (hR:R (.returned (.int .i64 2)) w) :
  Calls Tryz.prog 108 #[.pointer (some ⟨p,0,none⟩),.int .i64 tx] w R:=by
 have hkey:=keyOf_int_mk Tryz.underlying3 hwx
 go_enter Tryz.func108,Tryz.ntmps108
 go_wp2_with (first
  |(at_lookup;refine z8 _ rfl _ _ 99 rfl 3 129 zld Tryz.underlying99 (zdf _) mo n f rfl hown (.int .i64 tx) _ rfl hkey _ hf ?_)
  |go_in)
 exact hR
set_option maxHeartbeats 400000 in
theorem zhu (p mo n:Nat)(f:Value→Option Value)(tx:Int)(w:World)(c2:w.cell? ⟨p,7,none⟩=some (.map (some mo)))(hown:fmap w Tryz.prog 3 mo n f)(hwx:(Lit.int .i64 tx).wf=true)(a:Addr)(hf:f (.int .i64 tx)=some (.pointer (some a)))
  {f':Value→Option Value} (hp:zog f (.int .i64 tx) f')
  (hR:∀w',fmap w' Tryz.prog 3 mo (n-1) f'→w.mapTurned w' mo→R (.returned (.int .i64 0)) w') :
  Calls Tryz.prog 108 #[.pointer (some ⟨p,0,none⟩),.int .i64 tx] w R:=by
 have hkey:=keyOf_int_mk Tryz.underlying3 hwx
 go_enter Tryz.func108,Tryz.ntmps108
 go_wp2_with (first
  |(at_lookup;refine z8 _ rfl _ _ 99 rfl 3 129 zld Tryz.underlying99 (zdf _) mo n f rfl hown (.int .i64 tx) _ rfl hkey _ hf ?_)
  |(at_delete;refine zhg _ rfl _ _ 99 3 rfl 129 zld Tryz.underlying99 mo n f rfl hown (.int .i64 tx) _ rfl hkey hp ?_;intro w1 hown1 hturn1)
  |go_in)
 rw[hf]at hown1
 exact hR _ hown1 hturn1
set_option maxHeartbeats 400000 in
theorem ziu (p mo n:Nat)(f:Value→Option Value)(w:World)(c2:w.cell? ⟨p,7,none⟩=some (.map (some mo)))(hown:fmap w Tryz.prog 3 mo n f)(hn:(8:Int)≤n)
  (hR:R (.returned (.tuple #[.int .i64 0,.int .i64 3])) w) :
  Calls Tryz.prog 34 #[.pointer (some ⟨p,0,none⟩)] w R:=by
 go_enter Tryz.func34,Tryz.ntmps34
 go_wp2_with (first
  |(at_len;refine zuf _ rfl _ 99 rfl 3 129 Tryz.underlying99 mo n f rfl hown ?_)
  |go_in)
 exact hR
theorem z6q (w:World)(a:Addr)(v:Value)(o1 o2:Obj)(i:Nat)(hi:i<w.heap.size)(hne:i≠a.block):(((w.setCell a v).alloc o1).alloc o2).drew.heap[i]?=w.heap[i]?:=by
 show (((w.setCell a v).alloc o1).alloc o2).heap[i]?=_
 have hs:(w.setCell a v).heap.size=w.heap.size:=by simp[World.setCell]
 rw[Below.heap_alloc _ _ _ (by simp;omega),Below.heap_alloc _ _ _ (by omega),Below.heap_setCell _ _ _ _ hne]
set_option maxHeartbeats 400000 in
theorem zju (p mo n:Nat)(f:Value→Option Value)(w:World)(now begun:Int)(c0:w.cell? ⟨p,2,none⟩=some (.int .i64 now))(c1:w.cell? ⟨p,6,none⟩=some (.int .i64 begun))(c2:w.cell? ⟨p,7,none⟩=some (.map (some mo)))
  (f1:w.frozen? ⟨p,6,none⟩=false) (hb0:0≤begun) (hb1:begun<9223372036854775807)
  (hown:fmap w Tryz.prog 3 mo n f) (hn:(n:Int)<8) (hnew:f (.int .i64 (begun+1))=none)
  {f':Value→Option Value} (hp':zhe f (.int .i64 (begun+1)) (.pointer (some ⟨w.heap.size+1,0,none⟩)) f')
  (hR:∀w',fmap w' Tryz.prog 3 mo (n+1) f'→
   (((w.setCell ⟨p,6,none⟩ (.int .i64 (begun+1))).alloc (.map #[] 0)).alloc (.cells #[.int .i64 now,.map (some w.heap.size)] 132)).drew.mapTurned w' mo→
   R (.returned (.tuple #[.int .i64 (begun+1),.int .i64 0])) w') :
  Calls Tryz.prog 34 #[.pointer (some ⟨p,0,none⟩)] w R:=by
 go_enter Tryz.func34,Tryz.ntmps34
 go_wp2_with (first
  |(at_len;refine zuf _ rfl _ 99 rfl 3 129 Tryz.underlying99 mo n f rfl hown ?_)
  |go_in)
 have hpm:mo≠p:=λe=>by subst e;rw[hown.noCell]at c0;cases c0
 have hp:p<w.heap.size:=World.block_lt_of_cell? w _ c0
 have hmo:=hown.lt
 have hkey:=keyOf_int_mk (a:=begun+1) Tryz.underlying3 (WalkArith.wf_i64 (by omega))
 obtain⟨w1,hrun,hown1,hturn1⟩:=(hown.of_block (z6q w ⟨p,6,none⟩ (.int .i64 (begun+1)) (.map #[] 0) (.cells #[.int .i64 now,.map (some w.heap.size)] 132) mo hmo hpm)).store zld Tryz.underlying99 (by unfold maxLen;omega) hkey (.pointer (some ⟨w.heap.size+1,0,none⟩)) hp'
 have hmm:=@run_makeMap Tryz.prog
 have hc1:w1.cell? ⟨p,6,none⟩=some (.int .i64 (begun+1)):=by
  rw[World.cell?_of_block (w:=(((w.setCell ⟨p,6,none⟩ (.int .i64 (begun+1))).alloc (.map #[] 0)).alloc (.cells #[.int .i64 now,.map (some w.heap.size)] 132)).drew) (zlb hturn1 p (Ne.symm hpm))]
  go_simp
 rw[hnew]at hown1
 replace hR:=hR _ hown1 hturn1
 clear hnew hown1 hturn1 hp'
 go_region
 all_goals
  clear hrun hmm hkey hp hmo hpm c0 c1 c2 f1 hown
  go_wp2
  exact hR
end
end
end Go.Proofs.YthbdpfccfcceiaaGreatDoor
