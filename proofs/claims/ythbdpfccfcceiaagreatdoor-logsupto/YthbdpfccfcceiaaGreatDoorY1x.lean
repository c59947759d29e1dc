/-
  Of the proof of logsUpto_card.
-/
import Derived.Test.YthbdpfccfcceiaaGreatDoorW1x
import Derived.Laws.Bits64
namespace Go.Proofs.YthbdpfccfcceiaaGreatDoor
section
def z6c (s:Nat):Nat:=if s % 2=1 then (s / 2) ^^^ 3988292384 else s / 2
def zje (s:Nat):Nat:=z6c (z6c (z6c (z6c (z6c (z6c (z6c (z6c s)))))))
def zfg (s b:Nat):Nat:=zje (s ^^^ b)
def z5d (l:List Nat):Nat:=l.foldl zfg 4294967295
theorem zpe {s:Nat}(h:s<4294967296):z6c s<4294967296:=by
 unfold z6c
 split
 ·exact Nat.xor_lt_two_pow (n:=32) (by omega) (by omega)
 ·omega
theorem zst {s:Nat}(h:s<4294967296):zje s<4294967296:=zpe (zpe (zpe (zpe (zpe (zpe (zpe (zpe h)))))))
theorem zwu {s b:Nat}(h:s<4294967296)(hb:b<256):zfg s b<4294967296:=zst (Nat.xor_lt_two_pow (n:=32) h (by omega))
theorem zj1 {l:List Nat}(hl:∀b∈l,b<256):z5d l<4294967296:=by
 have:∀(l:List Nat) (s:Nat),(∀b∈l,b<256)→s<4294967296→l.foldl zfg s<4294967296:=by
  intro l
  induction l with
  |nil=>intro s _ h;exact h
  |cons b r ih=>intro s hl h;exact ih _ (λx hx=>hl x (List.mem_cons_of_mem _ hx)) (zwu h (hl b (by simp)))
 exact this l _ hl (by decide)
theorem zvu (x y:Nat):z6c (x ^^^ y)=z6c x ^^^ z6c y:=by
 have h2:(x ^^^ y) / 2=x / 2 ^^^ y / 2:=by
  apply Nat.eq_of_testBit_eq;intro i
  simp[Nat.testBit_div_two,Nat.testBit_xor]
 have hm:(x ^^^ y) % 2=(x % 2+y % 2) % 2:=by
  have e:=Nat.testBit_xor x y 0
  simp only[Nat.testBit_zero]at e
  rcases Nat.mod_two_eq_zero_or_one x with hx|hx<;>rcases Nat.mod_two_eq_zero_or_one y with hy|hy<;>rcases Nat.mod_two_eq_zero_or_one (x ^^^ y) with hz|hz<;>rw[hx,hy,hz]at e<;>revert e<;>rw[hx,hy,hz]<;>decide
 unfold z6c
 rw[h2,hm]
 rcases Nat.mod_two_eq_zero_or_one x with hx|hx<;>rcases Nat.mod_two_eq_zero_or_one y with hy|hy<;>simp[hx,hy]
 ·rw[Nat.xor_assoc]
 ·rw[Nat.xor_assoc,Nat.xor_assoc];congr 1;exact Nat.xor_comm _ _
 ·have:x / 2 ^^^ 3988292384 ^^^ (y / 2 ^^^ 3988292384)=x / 2 ^^^ y / 2 ^^^ (3988292384 ^^^ 3988292384):=by
   rw[Nat.xor_assoc,Nat.xor_assoc,← Nat.xor_assoc 3988292384,Nat.xor_comm 3988292384 (y / 2),Nat.xor_assoc]
  rw[this,Nat.xor_self,Nat.xor_zero]
theorem zuy (x y:Nat):zje (x ^^^ y)=zje x ^^^ zje y:=by simp only[zje,zvu]
theorem zrs (q:Nat):z6c (2*q)=q:=by
 unfold z6c
 have:¬(2*q) % 2=1:=by omega
 rw[if_neg this];omega
theorem zgw (q:Nat):zje (256*q)=q:=by
 have e:256*q=2*(2*(2*(2*(2*(2*(2*(2*q))))))):=by omega
 rw[zje,e]
 simp only[zrs]
theorem zi0 (x:Nat):x=(x % 256) ^^^ (256*(x / 256)):=by
 apply Nat.eq_of_testBit_eq;intro i
 rw[Nat.testBit_xor,show 256=2 ^ 8 from rfl,Nat.testBit_mod_two_pow,Nat.testBit_two_pow_mul,Nat.testBit_div_two_pow]
 by_cases h:i<8
 ·have:¬8≤i:=by omega
  simp[h,this]
 ·have:8≤i:=by omega
  simp[h,this]
theorem zuu (x:Nat):zje x=zje (x % 256) ^^^ (x / 256):=by
 conv=>lhs;rw[zi0 x]
 rw[zuy,zgw]
theorem zyp {s b:Nat}(hb:b<256):zfg s b=zje ((s ^^^ b) % 256) ^^^ (s / 256):=by
 unfold zfg
 rw[zuu]
 congr 1
 have:(s ^^^ b) / 256=s / 256 ^^^ b / 256:=by
  apply Nat.eq_of_testBit_eq;intro i
  rw[show 256=2 ^ 8 from rfl,Nat.testBit_xor,Nat.testBit_div_two_pow,Nat.testBit_div_two_pow,Nat.testBit_div_two_pow,Nat.testBit_xor]
 rw[this,Nat.div_eq_of_lt hb,Nat.xor_zero]
end
section
def u8 (n:Nat):UInt8:=UInt8.ofNat n
def fourB (n:Nat):List UInt8:=[u8 n,u8 (n / 256),u8 (n / 65536),u8 (n / 16777216)]
def z5c (bs:List UInt8):Nat:=4294967295-z5d (bs.map UInt8.toNat)
def z8c (bs:List UInt8):List UInt8:=bs++fourB (z5c bs)
def zoc (i:Nat):List UInt8:=z8c ([80,76,49]++fourB i)
def zac (s:ByteArray):List UInt8:=u8 s.size::s.data.toList
def zlg (v:ByteArray × Bool):List UInt8:=if v.2 then [1] else 0::zac v.1
def z9b (x:ByteArray × ByteArray × Bool):List UInt8:=zac x.1++zlg x.2
def zbb (t:Nat)(ws:List (ByteArray × ByteArray × Bool)):List UInt8:=67::(fourB t++(u8 ws.length::ws.flatMap z9b))
def zxb (t:Nat):List UInt8:=72::fourB t
def zqb (b:List UInt8):List UInt8:=z8c (u8 b.length::u8 (b.length / 256)::b)
def zrg (fs:List (List UInt8))(n:Nat)(b:List UInt8):List (List UInt8):=
 if n % 4=0 then fs++[zoc fs.length++zqb b] else fs.dropLast++[fs.getLastD []++zqb b]
def zfh:List (List UInt8)→List (List UInt8)→Nat→List (List UInt8)
 |fs,[],_=>fs
 |fs,b::r,n=>zfh (zrg fs n b) r (n+1)
def zm (lg:List (List UInt8)):List (List UInt8):=zfh [] lg 0
theorem z2d (n:Nat):(u8 n).toNat=n % 256:=by simp[u8]
theorem zmb (n:Nat):(fourB n).length=4:=rfl
theorem zbg (bs:List UInt8):(z8c bs).length=bs.length+4:=by simp[z8c,zmb]
theorem ztd (i:Nat):(zoc i).length=11:=by simp[zoc,zbg,zmb]
theorem zzd (b:List UInt8):(zqb b).length=b.length+6:=by simp[zqb,zbg]
theorem zud (s:ByteArray):(zac s).length=s.size+1:=by simp[zac]
theorem z2j (v:ByteArray × Bool):(zlg v).length≤v.1.size+2:=by unfold zlg;split<;>simp[zud]<;>omega
theorem zwg (x:ByteArray × ByteArray × Bool):(z9b x).length≤x.1.size+x.2.1.size+3:=by
 have:=z2j x.2
 simp[z9b,zud];omega
theorem zfi {α:Type}(f:α→List UInt8)(k:Nat):∀(l:List α),(∀x∈l,(f x).length≤k)→(l.flatMap f).length≤l.length*k
 |[],_=>by simp
 |x::r,h=>by
  have h1:=h x (by simp)
  have h2:=zfi f k r (λy hy=>h y (by simp[hy]))
  rw[List.flatMap_cons,List.length_append,List.length_cons,Nat.add_mul];omega
theorem zch (t:Nat)(ws:List (ByteArray × ByteArray × Bool))(h:∀x∈ws,x.1.size≤8∧x.2.1.size≤20):(zbb t ws).length≤6+ws.length*31:=by
 have:=zfi z9b 31 ws (λx hx=>Nat.le_trans (zwg x) (by have:=h x hx;omega))
 simp only[zbb,List.length_cons,List.length_append,zmb];omega
theorem z6e (t:Nat):(zxb t).length=5:=by simp[zxb,zmb]
theorem z4l:∀(lg fs:List (List UInt8)) (n:Nat) (b:List UInt8),zfh fs (lg++[b]) n=zrg (zfh fs lg n) (n+lg.length) b
 |[],fs,n,b=>by simp[zfh]
 |x::r,fs,n,b=>by
  show zfh (zrg fs n x) (r++[b]) (n+1)=_
  rw[z4l r,zfh]
  congr 1
  simp;omega
theorem z8d (lg:List (List UInt8))(b:List UInt8):zm (lg++[b])=zrg (zm lg) lg.length b:=by
 unfold zm;rw[z4l];simp
theorem zok {α:Type}{P:List α→Prop}(h0:P [])(h1:∀l x,P l→P (l++[x])):∀l,P l:=by
 intro l
 rw[← List.reverse_reverse l]
 induction l.reverse with
 |nil=>exact h0
 |cons x r ih=>rw[List.reverse_cons];exact h1 _ _ ih
theorem zhs (fs:List (List UInt8))(n:Nat)(b:List UInt8)(h:n % 4≠0→fs≠[]):(zrg fs n b).length=if n % 4=0 then fs.length+1 else fs.length:=by
 unfold zrg
 split
 ·simp
 ·rename_i h0
  have:=List.length_pos_iff.2 (h h0)
  simp;omega
theorem z4c (lg:List (List UInt8)):(zm lg).length=(lg.length+3) / 4:=by
 induction lg using zok with
 |h0=>rfl
 |h1 l x ih=>
  rw[z8d,zhs]
  ·rw[ih];simp;split<;>omega
  ·intro h e
   rw[e]at ih;simp at ih;omega
def bytesOf (fs:List (List UInt8)):Nat:=(fs.map List.length).sum
theorem zbe (a b:List (List UInt8)):bytesOf (a++b)=bytesOf a+bytesOf b:=by simp[bytesOf]
theorem z2c (a:List UInt8)(b:List (List UInt8)):bytesOf (a::b)=a.length+bytesOf b:=by simp[bytesOf]
theorem zws {α:Type}(l:List α)(d:α)(h:l≠[]):l.getLastD d=l.getLast h:=by
 cases l with
 |nil=>exact absurd rfl h
 |cons a r=>rfl
theorem zzl {α:Type}(l:List α)(d:α)(h:l≠[]):l.dropLast++[l.getLastD d]=l:=by
 rw[zws l d h];exact List.dropLast_concat_getLast h
theorem zxk (fs:List (List UInt8))(n:Nat)(b:List UInt8)(h:n % 4≠0→fs≠[]):bytesOf (zrg fs n b)=bytesOf fs+b.length+6+if n % 4=0 then 11 else 0:=by
 unfold zrg
 split
 ·simp[bytesOf,ztd,zzd];omega
 ·rename_i h0
  have h1:=h h0
  have h2:bytesOf fs=bytesOf (fs.dropLast++[fs.getLastD []]):=by rw[zzl fs [] h1]
  rw[h2]
  simp only[bytesOf,List.map_append,List.map_cons,List.map_nil,List.sum_append,List.sum_cons,List.sum_nil,List.length_append,zzd]
  omega
theorem z7i {lg:List (List UInt8)}(h:lg.length % 4≠0):zm lg≠[]:=λe=>by
 have:=z4c lg
 rw[e]at this;simp at this;omega
theorem z2e (lg:List (List UInt8))(k:Nat)(h:∀b∈lg,b.length≤k):bytesOf (zm lg)≤lg.length*(k+17):=by
 induction lg using zok with
 |h0=>simp[zm,zfh,bytesOf]
 |h1 l x ih=>
  rw[z8d,zxk _ _ _ (λh=>z7i h)]
  have h1:=ih (λb hb=>h b (by simp[hb]))
  have h2:=h x (by simp)
  have h3:(l++[x]).length*(k+17)=l.length*(k+17)+(k+17):=by simp[Nat.add_mul]
  rw[h3]
  split<;>omega
theorem z3e {fs:List (List UInt8)}{f:List UInt8}(h:f∈fs):f.length≤bytesOf fs:=by
 obtain⟨a,b,rfl⟩:=List.append_of_mem h
 rw[zbe,z2c];omega
def zqe (n:Nat):Nat:=if n=0 then 0 else (n-1) % 4+1
theorem zzs (n:Nat):zqe n=4↔n≠0∧n % 4=0:=by unfold zqe;split<;>omega
theorem znn (n:Nat)(h:n % 4=0):zqe (n+1)=1:=by unfold zqe;simp;omega
theorem z0s (n:Nat)(h:n % 4≠0):zqe (n+1)=zqe n+1:=by unfold zqe;simp;split<;>omega
theorem zww (n:Nat):zqe n≤4:=by unfold zqe;split<;>omega
theorem zco (lg:List (List UInt8)):(zm lg).length=0↔lg.length=0:=by rw[z4c];omega
end
section
open Go.RowKit
def b8 (b:UInt8):Value:=.int .u8 (b.toNat:Nat)
def BR (base:Nat)(w:World)(v:Value)(bs:List UInt8):Prop:=w.ownsRow base 5 1 v bs.length (bs.map b8)
def Tab (w:World):Prop:=∀i:Nat,i<128→w.cell? ⟨0,i,none⟩=some (.int .u32 (zje i:Nat))∧w.cell? ⟨1,i,none⟩=some (.int .u32 (zje (i+128):Nat))
theorem Tab.lt {w:World}(h:Tab w):0<w.heap.size∧1<w.heap.size:=⟨World.block_lt_of_cell? w _ (h 0 (by omega)).1,World.block_lt_of_cell? w _ (h 0 (by omega)).2⟩
theorem Tab.block {w w':World}(h:Tab w)(h0:w'.heap[0]?=w.heap[0]?)(h1:w'.heap[1]?=w.heap[1]?):Tab w':=λi hi=>
 ⟨(World.cell?_of_block (w:=w) (a:=⟨0,i,none⟩) h0).trans (h i hi).1,(World.cell?_of_block (w:=w) (a:=⟨1,i,none⟩) h1).trans (h i hi).2⟩
theorem Tab.kp {S:Nat→Prop}{w w':World}(h:Tab w)(hk:Kp S w w')(h0:¬S 0)(h1:¬S 1):Tab w':=h.block (hk.block 0 h.lt.1 h0) (hk.block 1 h.lt.2 h1)
theorem Tab.kept {w w':World}(h:Tab w)(hk:Kp (λ_=>False) w w'):Tab w':=h.kp hk (λe=>e) (λe=>e)
set_option maxRecDepth 20000 in
set_option maxHeartbeats 400000 in
theorem zgv (b:Nat)(w:World)(hT:Tab w)(hb:b<256) :
  Calls Tryz.prog 188 #[.int .u8 b] w λe w'=>e = .returned (.int .u32 (zje b:Nat))∧w'=w:=by
 by_cases h:b<128
 ·have hc:=(hT b h).1
  have h':(b:Int)<128:=by omega
  generalize zje b=v at hc ⊢
  clear hT
  go_enter Tryz.func188,Tryz.ntmps188
  go_wp2
  go_ret
  exact⟨rfl,rfl⟩
 ·obtain⟨i,rfl⟩:∃i,b=i+128:=⟨b-128,by omega⟩
  have hc:=(hT i (by omega)).2
  have h':¬((i:Int)+128<128):=by omega
  have h2:(i:Int)<128:=by omega
  generalize zje (i+128)=v at hc ⊢
  clear hT h
  rw[show ((i+128:Nat):Int)=(i:Int)+128 from rfl]
  go_enter Tryz.func188,Tryz.ntmps188
  go_wp2
  go_ret
  exact⟨rfl,rfl⟩
end
section
open Go.RowKit
theorem znq (a b:Nat)(ha:a<4294967296)(hb:b<4294967296):bits .xor .u32 (a:Int) (b:Int)=((a ^^^ b:Nat):Int):=by
 have hx:a ^^^ b<2 ^ 32:=Nat.xor_lt_two_pow (by omega) (by omega)
 have h1:(BitVec.ofInt 32 (a:Int)).toNat=a:=by rw[BitVec.ofInt_natCast,BitVec.toNat_ofNat];exact Nat.mod_eq_of_lt (by omega)
 have h2:(BitVec.ofInt 32 (b:Int)).toNat=b:=by rw[BitVec.ofInt_natCast,BitVec.toNat_ofNat];exact Nat.mod_eq_of_lt (by omega)
 show IntKind.u32.wrap ((BitVec.ofInt 32 (a:Int) ^^^ BitVec.ofInt 32 (b:Int)).toNat:Int)=_
 rw[BitVec.toNat_xor,h1,h2]
 simp only[IntKind.wrap,IntKind.bits,IntKind.signed]
 simp
 omega
theorem zh1 (a b:Nat)(ha:a<256)(hb:b<256):bits .xor .u8 (a:Int) (b:Int)=((a ^^^ b:Nat):Int):=by
 have hx:a ^^^ b<2 ^ 8:=Nat.xor_lt_two_pow (by omega) (by omega)
 have h1:(BitVec.ofInt 8 (a:Int)).toNat=a:=by rw[BitVec.ofInt_natCast,BitVec.toNat_ofNat];exact Nat.mod_eq_of_lt (by omega)
 have h2:(BitVec.ofInt 8 (b:Int)).toNat=b:=by rw[BitVec.ofInt_natCast,BitVec.toNat_ofNat];exact Nat.mod_eq_of_lt (by omega)
 show IntKind.u8.wrap ((BitVec.ofInt 8 (a:Int) ^^^ BitVec.ofInt 8 (b:Int)).toNat:Int)=_
 rw[BitVec.toNat_xor,h1,h2]
 simp only[IntKind.wrap,IntKind.bits,IntKind.signed]
 simp
 omega
theorem z7n (a b:Nat)(ha:a<4294967296)(hb:b<4294967296):bits .or .u32 (a:Int) (b:Int)=((a ||| b:Nat):Int):=by
 have hx:a ||| b<2 ^ 32:=Nat.or_lt_two_pow (by omega) (by omega)
 have h1:(BitVec.ofInt 32 (a:Int)).toNat=a:=by rw[BitVec.ofInt_natCast,BitVec.toNat_ofNat];exact Nat.mod_eq_of_lt (by omega)
 have h2:(BitVec.ofInt 32 (b:Int)).toNat=b:=by rw[BitVec.ofInt_natCast,BitVec.toNat_ofNat];exact Nat.mod_eq_of_lt (by omega)
 show IntKind.u32.wrap ((BitVec.ofInt 32 (a:Int) ||| BitVec.ofInt 32 (b:Int)).toNat:Int)=_
 rw[BitVec.toNat_or,h1,h2]
 simp only[IntKind.wrap,IntKind.bits,IntKind.signed]
 simp
 omega
theorem zim (a:Nat)(ha:a<4294967296):bits .xor .u32 IntKind.u32.max (a:Int)=((4294967295-a:Nat):Int):=by
 have e:4294967295 ^^^ a=4294967295-a:=by
  have h1:=BitVec.toNat_not (x:=BitVec.ofNat 32 a)
  rw[← BitVec.allOnes_xor,BitVec.toNat_xor,BitVec.toNat_ofNat,Nat.mod_eq_of_lt (show a<2 ^ 32 by omega)]at h1
  simpa using h1
 rw[← e]
 exact znq 4294967295 a (by omega) ha
theorem zdi (bs:List UInt8):z5d (bs.map UInt8.toNat)<4294967296:=zj1 (λb hb=>by
 obtain⟨x,_,rfl⟩:=List.mem_map.1 hb
 exact x.toNat_lt)
theorem zph (bs:List UInt8):z5c bs<4294967296:=by unfold z5c;omega
theorem zzn (bs:List UInt8)(k:Nat)(h:k<bs.length):bs.take (k+1)=bs.take k++[bs.getD k 0]:=by
 rw[List.take_succ_eq_append_getElem h]
 simp[List.getD,List.getElem?_eq_getElem h]
theorem zz2 (s b:Nat)(hb:b<256):s % 256 ^^^ b=(s ^^^ b) % 256:=by
 apply Nat.eq_of_testBit_eq;intro i
 rw[show 256=2 ^ 8 from rfl,Nat.testBit_xor,Nat.testBit_mod_two_pow,Nat.testBit_mod_two_pow,Nat.testBit_xor]
 by_cases h:i<8
 ·simp[h]
 ·have:b.testBit i=false:=Nat.testBit_lt_two_pow (Nat.lt_of_lt_of_le hb (by rw[show 256=2 ^ 8 from rfl];exact Nat.pow_le_pow_right (by omega) (by omega)))
  simp[h,this]
theorem z1t (bs:List UInt8):bits .xor .u32 IntKind.u32.max ((z5c bs:Nat):Int)=((z5d (bs.map UInt8.toNat):Nat):Int):=by
 rw[zim _ (zph bs)]
 have:=zdi bs
 unfold z5c
 congr 1
 omega
theorem sum_nil:((z5c []:Nat):Int)=0:=by decide
set_option maxRecDepth 20000 in
set_option maxHeartbeats 1000000 in
theorem zxz (g o cap:Nat)(pre bs:List UInt8)(w:World)(hT:Tab w)(hl:bs.length≤1000000000)(hc:∀j,j<bs.length→w.cell? ⟨g,o+j,none⟩=some (b8 (bs.getD j 0)))(n0:Int)(h0:n0=((z5c pre:Nat):Int)) :
  Calls Tryz.prog 139 #[.int .u32 n0,.slice (some ⟨g,o,none⟩) bs.length cap] w λe w'=>e = .returned (.int .u32 (z5c (pre++bs):Nat))∧w'=w:=by
 have HC:Hid _:=hc
 have e0:bits .xor .u32 IntKind.u32.max n0=((z5d ((pre++bs.take 0).map UInt8.toNat):Nat):Int):=by rw[h0,z1t];simp
 clear hc h0
 generalize hS0:((z5d ((pre++bs.take 0).map UInt8.toNat):Nat):Int)=s0 at e0
 go_enter Tryz.func139,Tryz.ntmps139
 go_wp2
 go_loop [0,11] (λs i=>∃k:Nat,k≤bs.length∧i = .int .i64 k∧s = .int .u32 (z5d ((pre++bs.take k).map UInt8.toNat):Nat)) (λ_ i=>bs.length-(intOf i).toNat)
 case atStart=>exact⟨0,Nat.zero_le _,rfl,by rw[hS0]⟩
 case round=>
  obtain⟨k,hk,rfl,rfl⟩:=hrel
  clear e0 hS0
  have hS0:=zdi (pre++bs.take k)
  by_cases hlt:k<bs.length
  ·have hck:=HC.out k hlt
   have HT:Hid (z5d ((pre++bs.take (k+1)).map UInt8.toNat)=zfg (z5d ((pre++bs.take k).map UInt8.toNat)) (bs.getD k 0).toNat):=by
    show _=_
    rw[zzn bs k hlt,← List.append_assoc];simp[z5d]
   generalize z5d ((pre++bs.take k).map UInt8.toNat)=S at hS0 HT ⊢
   generalize bs.getD k 0=B at hck HT
   unfold b8 at hck
   have hB:=B.toNat_lt
   generalize B.toNat=b at hck HT hB
   have h1:bits .xor .u8 ((S:Int) % 256) (b:Int)=(((S ^^^ b) % 256:Nat):Int):=by
    rw[← zz2 S b hB];exact zh1 (S % 256) b (by omega) hB
   have h2:bits .xor .u32 ((S:Int) / 256) ((zje ((S ^^^ b) % 256):Nat):Int)=((zfg S b:Nat):Int):=by
    rw[zyp hB,Nat.xor_comm (zje ((S ^^^ b) % 256))]
    exact znq (S / 256) (zje ((S ^^^ b) % 256)) (by omega) (zst (by omega))
   have HB:Hid ((S ^^^ b) % 256<256):=Nat.mod_lt _ (by omega)
   generalize (S ^^^ b) % 256=x at h1 h2 HB
   go_wp2_with (go_at_call 188;refine (zgv _ _ hT HB.out).mono ?_;rintro e w' ⟨rfl,rfl⟩)
   go_round
   case rel=>exact⟨k+1,by omega,by go_num,by rw[HT.out]⟩
   case measure=>simp[intOf];omega
  ·have hk':k=bs.length:=by omega
   subst hk'
   have h3:=zim _ hS0
   rw[List.take_length]at h3 ⊢
   have HS:Hid (z5c (pre++bs)=4294967295-z5d ((pre++bs).map UInt8.toNat)):=rfl
   generalize z5d ((pre++bs).map UInt8.toNat)=S at h3 HS ⊢
   clear hS0
   go_wp2
   go_ret
   exact⟨by rw[HS.out];rfl,rfl⟩
set_option maxRecDepth 20000 in
set_option maxHeartbeats 1000000 in
theorem zwz (p:Option Addr)(cap:Nat)(pre:List UInt8)(w:World)(n0:Int)(h0:n0=((z5c pre:Nat):Int)) :
  Calls Tryz.prog 139 #[.int .u32 n0,.slice p 0 cap] w λe w'=>e = .returned (.int .u32 (z5c pre:Nat))∧w'=w:=by
 have e0:bits .xor .u32 IntKind.u32.max n0=((z5d (pre.map UInt8.toNat):Nat):Int):=by rw[h0,z1t]
 have e1:=zim _ (zdi pre)
 have HS:Hid (z5c pre=4294967295-z5d (pre.map UInt8.toNat)):=rfl
 clear h0
 generalize z5d (pre.map UInt8.toNat)=S at e0 e1 HS
 go_enter Tryz.func139,Tryz.ntmps139
 go_wp2
 go_loop [0,11] (λs i=>i = .int .i64 0∧s = .int .u32 S) (λ_ _=>0)
 case atStart=>exact⟨rfl,rfl⟩
 case round=>
  obtain⟨rfl,rfl⟩:=hrel
  go_wp2
  go_ret
  exact⟨by rw[HS.out];rfl,rfl⟩
def RdB (w:World)(v:Value)(bs:List UInt8):Prop:=∃p cap,v = .slice p bs.length cap∧(bs≠[]→∃g o,p=some ⟨g,o,none⟩∧∀j,j<bs.length→w.cell? ⟨g,o+j,none⟩=some (b8 (bs.getD j 0)))
theorem zvz (v:Value)(pre bs:List UInt8)(w:World)(hT:Tab w)(hl:bs.length≤1000000000)(h:RdB w v bs)(n0:Int)(h0:n0=((z5c pre:Nat):Int)) :
  Calls Tryz.prog 139 #[.int .u32 n0,v] w λe w'=>e = .returned (.int .u32 (z5c (pre++bs):Nat))∧w'=w:=by
 obtain⟨p,cap,rfl,h⟩:=h
 by_cases hb:bs=[]
 ·subst hb
  rw[List.append_nil]
  exact zwz p cap pre w n0 h0
 ·obtain⟨g,o,rfl,hc⟩:=h hb
  exact zxz g o cap pre bs w hT hl hc n0 h0
set_option maxRecDepth 20000 in
set_option maxHeartbeats 400000 in
theorem zxn (v:Value)(bs:List UInt8)(w:World)(hT:Tab w)(hl:bs.length≤1000000000)(h:RdB w v bs) :
  Calls Tryz.prog 204 #[v] w λe w'=>e = .returned (.int .u32 (z5c bs:Nat))∧w'=w:=by
 have HM:=ze (zvz v [] bs w hT hl h 0 sum_nil.symm)
 clear hT hl h
 go_enter Tryz.func204,Tryz.ntmps204
 go_wp2_with (first
  |(go_at_call 139;refine Calls.mono HM.out ?_;rintro e w1 ⟨rfl,rfl⟩)
  |go_in)
 first
  |exact⟨rfl,rfl⟩
  |(go_ret;exact⟨rfl,rfl⟩)
theorem BR.rd {base:Nat}{w:World}{v:Value}{bs:List UInt8}(h:BR base w v bs):RdB w v bs:=by
 rcases h.2 with ⟨rfl,h0⟩|⟨g,cap,cur,rfl,_,hg,hn,_,hcs,htk⟩
 ·exact⟨none,0,by rw[h0],λe=>absurd (List.eq_nil_of_length_eq_zero h0) e⟩
 ·refine⟨_,cap,rfl,λ_=>⟨g,0,rfl,λj hj=>?_⟩⟩
  have:(bs.map b8)[j]?=cur.toList[j]?:=by rw[← htk,List.getElem?_take];simp[hj]
  rw[List.getElem?_map,List.getElem?_eq_getElem hj]at this
  simp only[World.cell?,hg,Nat.zero_add]
  rw[← Array.getElem?_toList,← this]
  simp[List.getD,List.getElem?_eq_getElem hj]
end
end Go.Proofs.YthbdpfccfcceiaaGreatDoor
