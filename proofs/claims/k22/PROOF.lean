import PyProof.Rows.All
import Wide.All
import OpenK.AllK
import Wide.FinOn
import Lean
import PyProof.EqAt
import PyProof.EqKinds
import PyProof.TupleCall
import PyProof.EqLayable
import PyProof.FitsBits
import PyProof.FitsInt
import PyProof.ReprLen
import PyProof.ReprReads
import PyProof.StrLawsRepr
import KE.KRevIter
import KE.KDictSum
import KE.KRevSl
import PyProof.Rows.ZipGen
import PyProof.Rows.SortWalk
import KE.KDictList
import PyProof.Rows.Tup
import PyProof.Rows.Range3
import PyProof.EnumMake
import PyProof.EnumFor
import PyProof.Rows.SortStr
import PyProof.Rows.SeqMore2
import PyProof.Rows.StrInSeq3
import KE.KIntText
import PyProof.StrCalls
import PyProof.Cells
import PyProof.Rows.SeqMore
import PyProof.ListMulAny
import PyProof.DictUpdate
import KE.KMinKey
import PyProof.ReprRoads
import PyProof.CallFns
import PyProof.Rows.StrMadeLen
import PySem.Challenge.RW_waitloom_k22_whole_written_ahead
set_option Elab.async false
set_option linter.all false
set_option genSizeOf false
set_option maxRecDepth 100000
noncomputable section
open PySem.W(Frag)
local macro_rules|`(∅)=>`(by decide+kernel)
local macro_rules|`(⋯)=>`(by omega)
theorem O0 {p:Prop} (h:p:=by decide):p:=h
open PySem renaming PyData→Aa,Value→Ab,Addr→Ac,Shared→Ae,sizeLine→Af,mainGlobals→Ap,wpAny_bind→Ai,wpAny_pure→A1,wpAny_field→Bq,wpAny_loadPart'→Bx,wpAny_callSpecial?_slot→B0,wpAny_setField_rec→Ca,wpAny_truthy_bool→Ce,wpAny_call_entry→Ch,wpAny_newObj_type→Cp,mem_of_lookup→Cq,wpAny_seqItems→Cu,wpAny_pyIter_tuple→C8,wpAny_passesOwn→De,wpAny_getItem_str_slice→Dn,tupleKind_room_in1→Do,wpAny_mono→Dq,wpAny_Call_Name_kw→Ei,call_meets→El,wpAny_pyIter_enum→Em,wpAny_holding→Es,wpAny_rule→Eu
open List renaming getElem?_eq_getElem→Ah,length_map→Aj,getElem?_map→Au,mem_cons→Av,length_append→Ax,mem_singleton→Ay,mem_append→Az,mem_of_getElem?→A0,getElem?_eq_some_iff→A2,mem_map→A3,size_toArray→A5,map_append→A6,not_mem_nil→A7,all_eq_true→A8,map_cons→Bb,mem_cons_of_mem→Bg,mem_cons_self→Bi,length_cons→Bj,take_add_one→Bl,map_map→Bm,getElem?_zip_eq_some→Bo,take_length→Bp,getElem?_append_left→Br,mem_append_right→Bs,length_take_le→Bw,lookup_cons→By,getElem?_append_right→Bz,find?_cons→B2,any_eq_true→Cd,mem_iff_getElem→Cf,length_zip→Cg,append_nil→Cj,nodup_cons→Ck,take_of_length_le→Cn,any_cons→Ct,replicate_succ→Cv,getD_eq_getElem?_getD→Cz,length_range'→C0,all_cons→C3,map_congr_left→C4,length_filter_le→Db,length_range→Dh,getElem?_set_ne→Di,all_map→Dj,mem_filter→Dp,drop_of_length_le→Ds,append_assoc→Du,flatten_cons→Dw,length_replicate→Dy,mem_range→D0,filter_cons→D7,length_drop→D9,mem_append_left→Ea,of_mem_zip→Eg,forIn_cons→Eh,nodup_append→En,foldl_append→Eo,any_map→Ev
open Bool renaming false_ne_true→Ak,and_eq_true→Al,false_and→Ba,true_and→Be,eq_iff_iff→Bn,or_eq_true→Cc,eq_false_iff→Ci,false_or→Dg,or_false→Er,and_true→Et
open Nat renaming le_refl→An,le_trans→As,lt_of_lt_of_le→Bk,ne_of_lt→B1,zero_testBit→B4,lt_of_le_of_lt→Cb,ne_of_gt→Cy,zero_le→C6,sub_self→Da,testBit_and→Dd,lt_irrefl→Df,succ_le_succ→Dk,le_succ_of_le→Dt,or_lt_two_pow→Dx,testBit_or→Dz,zero_add→D5,lt_succ_self→D8,min_eq_right→Ec
open PySem.W renaming mg_of→Aq,mg_none_of→B7,kia_one→B8
open PySem.Heap renaming get?_push_of_some→Ar,lt_size→A9,get?_push_size→Bc,size_push→C2,get?_none_of_le→D6
open Int renaming toNat_natCast→Bf,toNat_of_nonneg→Cw,zero_add→Dl,emod_lt_of_pos→Ek
open Option.some renaming inj→Bh
open PySem.PassesOwn renaming never→Bt
open PySem.F renaming plainAttrs_list→Bu,type_list_append→B5,slot_list_append→B6,slot_tuple_iterator_next→B9,args_tuple_iterator_next_1→C5,entry_tuple_iterator_next→C9,slot_enumerate_next→D4
open PyProof.Rows renaming callWith_type1→Cm
open Option renaming isSome_iff_exists→Cr,map_eq_some_iff→C7,map_some→Dr,isSome_map→Dv,getD_some→Eb
open Array renaming length_toList→Ee
open PySem.Heap.SameBut renaming update→Ef
open PySem.Obj renaming data_mapFields→Ej
open Sum.inr renaming inj→Ep
def Am:=@decide_eq_true
def Ao:=@decide_eq_false
def A4:=@decide_eq_true_eq
def Bd:=@beq_iff_eq
def Bv:=@beq_eq_false_iff_ne
def Co:=@of_decide_eq_true
def C1:=@decide_eq_true_iff
def Dm:=@beq_self_eq_true
def Ed:=@decide_eq_decide
namespace L2
open PySem PySem.Spec PyProof.Rows
abbrev Key:=Sum Int Str
def wn:Key→Ab→Bool
 | .inl k,v=>Value.isInt k v
 | .inr x,v=>Value.isStrOf x v
def keyH (w:World):Key→Int
 | .inl k=>hashInt k
 | .inr x=>hashStr w x
theorem zq:∀ {k:Key} {v:Ab},wn k v=true→(∃ i t,k=Sum.inl i∧v=Value.int i t)∨(∃ x t,k=Sum.inr x∧v=Value.str x t)
 | .inl i,v,h=>by
  obtain ⟨t,e⟩:=Value.isInt_shape (k:=i) (v:=v) h;exact .inl ⟨i,t,rfl,e⟩
 | .inr x,v,h=>by
  obtain ⟨t,e⟩:=Value.isStrOf_shape (x:=x) (v:=v) h;exact .inr ⟨x,t,rfl,e⟩
theorem Qm (i:Int) (t:Tok):wn (.inl i) (.int i t)=true:=by simp [wn,Value.isInt]
theorem vX (x:Str) (t:Tok):wn (.inr x) (.str x t)=true:=by simp [wn,Value.isStrOf]
theorem qgi (a b:Int):decide ((Sum.inl a:Key)=Sum.inl b)=(a==b):=by
 by_cases e:a=b
 ·subst e;simp
 ·have h:¬ (Sum.inl a:Key)=Sum.inl b:=fun q=>e (Sum.inl.inj q);rw [Ao h];exact (Bv.mpr e).symm
theorem qgf (a b:Str):decide ((Sum.inr a:Key)=Sum.inr b)=decide (a=b):=by
 by_cases e:a=b
 ·subst e;simp
 ·have h:¬ (Sum.inr a:Key)=Sum.inr b:=fun q=>e (Ep q);rw [Ao h,Ao e]
theorem qgh (a:Int) (b:Str):decide ((Sum.inl a:Key)=Sum.inr b)=false:=Ao (fun q=>nomatch q)
theorem qgg (a:Str) (b:Int):decide ((Sum.inr a:Key)=Sum.inl b)=false:=Ao (fun q=>nomatch q)
def zc (prog:Program) (w:World):PySem.KeyKind prog w Key where
 is:=wn
 hash:=keyH w
 inj:=fun v a b ha hb=>by
  rcases zq ha with ⟨i,t,rfl,rfl⟩ | ⟨x,t,rfl,rfl⟩
  ·rcases zq hb with ⟨j,u,rfl,e⟩ | ⟨y,u,rfl,e⟩
   ·injection e with e1 _;rw [e1]
   ·exact nomatch e
  ·rcases zq hb with ⟨j,u,rfl,e⟩ | ⟨y,u,rfl,e⟩
   ·exact nomatch e
   ·injection e with e1 _;rw [e1]
 byValue:=fun k v h=>by
  rcases zq h with ⟨i,t,rfl,rfl⟩ | ⟨x,t,rfl,rfl⟩ <;> rfl
 pyHash:=fun hv h=>by
  rcases zq hv with ⟨i,t,rfl,rfl⟩ | ⟨x,t,rfl,rfl⟩
  ·exact wpAny_pyHash_int h
  ·exact wpAny_pyHash_str h
 eqBool:=fun hu hv h=>by
  rcases zq hu with ⟨i,t,rfl,rfl⟩ | ⟨x,t,rfl,rfl⟩
  ·rcases zq hv with ⟨j,u,rfl,rfl⟩ | ⟨y,u,rfl,rfl⟩
   ·rw [qgi] at h;exact wpAny_eqBool_int h
   ·rw [qgh] at h;exact SeqAt.EqAt.int_str i t y u _ _ _ _ h
  ·rcases zq hv with ⟨j,u,rfl,rfl⟩ | ⟨y,u,rfl,rfl⟩
   ·rw [qgg] at h;exact SeqAt.EqAt.str_int x t j u _ _ _ _ h
   ·rw [qgf] at h;exact wpAny_eqBool_str h
 «strs» :=fun k x t v h=>by
  rcases zq h with ⟨i,u,rfl,e⟩ | ⟨y,u,rfl,e⟩
  ·exact nomatch e
  ·injection e with e1 _
   subst e1;cases v <;> rfl
theorem YX (prog:Program) (w:World) (i:Int) (t:Tok):(zc prog w).is (.inl i) (.int i t)=true:=Qm i t
theorem YW (prog:Program) (w:World) (x:Str) (t:Tok):(zc prog w).is (.inr x) (.str x t)=true:=vX x t
inductive V where
 | non | bl (b:Bool) | int (i:Int) | str (x:Str) | byt (b:Array UInt8) | flt (b:UInt64) | ref (a:Ac) | ty (n:String)
 deriving DecidableEq
def qz:V→Ab→Prop
 | .non,u=>u=Value.none
 | .bl b,u=>u=Value.bool b
 | .int i,u=>∃ t,u=Value.int i t
 | .str x,u=>∃ t,u=Value.str x t
 | .byt b,u=>∃ t,u=Value.bytes b t
 | .flt b,u=>∃ t,u=Value.float b t
 | .ref a,u=>u=Value.ref a
 | .ty n,u=>u=Value.type n
abbrev qK:List V→List Ab→Prop:=Paired qz
theorem qK.length {xs:List V} {us:List Ab} (r:qK xs us):xs.length=us.length:=Paired.length r
theorem qK.get:∀ {xs:List V} {us:List Ab} {i:Nat} {x:V},qK xs us→xs[i]?=some x→∃ u,us[i]?=some u∧qz x u
 | _,_,_,_,.nil,e=>by simp at e
 | _,_,0,_,.cons r _,e=>by simp at e;subst e;exact ⟨_,rfl,r⟩
 | _,_,i+1,x,.cons _ t,e=>by
  obtain ⟨u,h1,h2⟩:=qK.get (i:=i) (x:=x) t (by simpa using e)
  exact ⟨u,by simpa using h1,h2⟩
theorem qK.set {x:V} {u:Ab} (r:qz x u):∀ {xs:List V} {us:List Ab} (i:Nat),qK xs us→qK (xs.set i x) (us.set i u)
 | _,_,_,.nil=> .nil
 | _,_,0,.cons _ t=> .cons r t
 | _,_,i+1,.cons q t=> .cons q (qK.set r i t)
theorem qK.append:∀ {xs ys:List V} {us ws:List Ab},qK xs us→qK ys ws→qK (xs++ys) (us++ws)
 | _,_,_,_,.nil,s=>s
 | _,_,_,_,.cons r t,s=> .cons r (qK.append t s)
theorem qK.take:∀ {xs:List V} {us:List Ab} (n:Nat),qK xs us→qK (xs.take n) (us.take n)
 | _,_,0,_=> .nil
 | _,_,_+1,.nil=> .nil
 | _,_,n+1,.cons r t=> .cons r (qK.take n t)
theorem qK.drop:∀ {xs:List V} {us:List Ab} (n:Nat),qK xs us→qK (xs.drop n) (us.drop n)
 | _,_,0,r=>r
 | _,_,_+1,.nil=> .nil
 | _,_,n+1,.cons _ t=>qK.drop n t
def vy:Option V→Option Ab→Prop
 | some v,some u=>qz v u
 | none,none=>True
 | _,_=>False
def KV {κ:Type}:List (κ×V)→List (κ×Ab)→Prop:=Paired fun (p:κ×V) (q:κ×Ab)=>p.1=q.1∧qz p.2 q.2
def kV:Key→V
 | .inl i=> .int i
 | .inr x=> .str x
inductive HO where
 | lst (xs:List V)
 | tup (xs:List V)
 | dK (kvs:List (Key×V)) | dT (kvs:List (List Key×V))
 | set (S:Int→Bool) (n:Nat)
 | ins (C dx:Ac) (fs:List (Str×V))
 | own (x:Ac)
 | xd (fs:List (Str×V))
 | met (f x:Ac)
 | rng (lo hi:Int)
 | frz (o:Obj) (u:HO)
 | tbl (ps:Array Ab)
 | ext (φ:Heap→Prop)
abbrev Hp:=Ac→Option HO
def upd (H:Hp) (a:Ac) (o:HO):Hp:=fun b=>if b=a then some o else H b
theorem upd_same {H:Hp} {a:Ac} {o:HO}:upd H a o a=some o:=by unfold upd;rw [if_pos rfl]
theorem qo {H:Hp} {a b:Ac} {o:HO} (h:b≠a):upd H a o b=H b:=by unfold upd;rw [if_neg h]
theorem qa3 {H:Hp} {a b:Ac} {o u:HO} (h:H a=some o) (h':H b=some u) (d:o≠u):a≠b:=by
 intro e;subst e;rw [h] at h';exact d (Bh h')
theorem qr {H:Hp} {a b:Ac} {o:HO} (h:H a=some o) (h':H b=none):a≠b:=by
 intro e;subst e;rw [h] at h';cases h'
section
variable (P:Program) (w:World)
def zt (H:Hp) (h:Heap) (a:Ac):HO→Prop
 | .lst xs=>xs.length≤Af∧∃ (its:List Ab) (n:Nat),qK xs its∧h.get? a=some {cls:= .type "list",data:= .seq its.toArray n}
 | .tup xs=>xs.length≤Af∧∃ its:List Ab,qK xs its∧IsTup h a its.toArray
 | .dK kvs=>kvs.length≤Af∧(a==sysModules)=false∧∃ vs,KV kvs vs∧h.DictOf (zc P w) a vs
 | .dT kvs=>kvs.length≤Af∧(a==sysModules)=false∧∃ xs:List (List Key×Ac×Ab),
   Paired (fun (p:List Key×V) (q:List Key×Ac×Ab)=>p.1=q.1∧H q.2.1=some (.tup (p.1.map kV))∧qz p.2 q.2.2) kvs xs∧
   ∃ o es ep,h.get? a=some o∧o.ExactDict∧o.data= .dict es ep∧es.toList=xs.map (entryOfKey (tupleKind (zc P w)))∧(xs.map (·.1)).Nodup
 | .set S n=>h.SetOf (intKind P w) a S n
 | .ins C dx fs=>H dx=some (.own a)∧fs.length≤1000∧dx≠a∧h.get? a=some (PySem.W.instObj C dx)∧
   ∃ mA,h.Ns1 dx mA∧(∀ f,vy (fs.lookup f) (mA f))∧PySem.Within mA (fs.map (·.1))
 | .own _=>∃ o,h.get? a=some o
 | .xd fs=>∃ mA,h.Ns1 a mA∧∀ f,vy (fs.lookup f) (mA f)
 | .rng lo hi=>∃ t u v,h.get? a=some {cls:= .type "range",data:= .fields #[.int lo t,.int hi u,.int 1 v]}
 | .frz o u=>h.get? a=some o∧zt H h a u
 | .tbl ps=>h.get? a=some {cls:= .none,data:= .fields ps}
 | .met f x=>h.get? a=some (PySem.W.methodObj (.ref f) (.ref x))
 | .ext φ=>φ h∧(∃ o,h.get? a=some o)∧∀ h1 h2:Heap,φ h1→(∀ o,h1.get? a=some o→h2.get? a=some o)→φ h2
def HOk (H:Hp) (h:Heap):Prop:=∀ a o,H a=some o→zt P w H h a o
end
section
variable {P:Program} {w:World} {H H':Hp} {h h':Heap} {a:Ac} {o:HO}
theorem zt.lt (x:zt P w H h a o):a<h.objs.size:=by
 cases o with
 | lst xs=>obtain ⟨_,_,_,_,e⟩:=x;exact A9 e
 | tup xs=>obtain ⟨_,_,_,p⟩:=x;exact p.lt
 | dK kvs=>obtain ⟨_,_,_,_,o,_,_,e,_⟩:=x;exact A9 e
 | dT kvs=>obtain ⟨_,_,_,_,o,_,_,e,_⟩:=x;exact A9 e
 | set S n=>obtain ⟨o,_,_,_,e,_⟩:=x;exact A9 e
 | ins C dx fs=>obtain ⟨_,_,_,e,_⟩:=x;exact A9 e
 | own y=>obtain ⟨_,e⟩:=x;exact A9 e
 | xd fs=>obtain ⟨_,⟨_,_,_,e,_⟩,_⟩:=x;exact A9 e
 | rng lo hi=>obtain ⟨_,_,_,e⟩:=x;exact A9 e
 | frz ob u=>obtain ⟨e,_⟩:=x;exact A9 e
 | tbl ps=>exact A9 (show h.get? a=some _ from x)
 | met f y=>exact A9 (show h.get? a=some _ from x)
 | ext φ=>obtain ⟨_,⟨_,e⟩,_⟩:=x;exact A9 e
theorem Paired.mapP {α β:Type} {F G:α→β→Prop}:∀ {l₁:List α} {l₂:List β},Paired F l₁ l₂→(∀ a b,F a b→G a b)→Paired G l₁ l₂
 | _,_,.nil,_=> .nil
 | _,_,.cons r t,f=> .cons (f _ _ r) (Paired.mapP t f)
theorem zt.stay (x:zt P w H h a o) (k:∀ b u,(b=a∨H b=some (.own a))→h.get? b=some u→h'.get? b=some u)
  (ho:∀ b,H b=some (.own a)→H' b=some (.own a)) (ht:∀ b xs,H b=some (.tup xs)→H' b=some (.tup xs)):zt P w H' h' a o:=by
 induction o with
 | lst xs=>obtain ⟨z,its,n,r,e⟩:=x;exact ⟨z,its,n,r,k _ _ (.inl rfl) e⟩
 | tup xs=>obtain ⟨z,its,r,ob,e,c⟩:=x;exact ⟨z,its,r,ob,k _ _ (.inl rfl) e,c⟩
 | dK kvs=>obtain ⟨z,y,vs,r,ob,es,ep,e,c⟩:=x;exact ⟨z,y,vs,r,ob,es,ep,k _ _ (.inl rfl) e,c⟩
 | dT kvs=>
  obtain ⟨z,y,xs,r,ob,es,ep,e,c⟩:=x;exact ⟨z,y,xs,Paired.mapP r fun p q z=>⟨z.1,ht _ _ z.2.1,z.2.2⟩,ob,es,ep,k _ _ (.inl rfl) e,c⟩
 | set S n=>obtain ⟨ob,es,ep,t,e,c⟩:=x;exact ⟨ob,es,ep,t,k _ _ (.inl rfl) e,c⟩
 | ins C dx fs=>
  obtain ⟨d,z,ne,e,mA,⟨od,es,ep,e2,c⟩,r⟩:=x;exact ⟨ho _ d,z,ne,k _ _ (.inl rfl) e,mA,⟨od,es,ep,k _ _ (.inr d) e2,c⟩,r⟩
 | own y=>obtain ⟨ob,e⟩:=x;exact ⟨ob,k _ _ (.inl rfl) e⟩
 | xd fs=>obtain ⟨mA,⟨od,es,ep,e,c⟩,r⟩:=x;exact ⟨mA,⟨od,es,ep,k _ _ (.inl rfl) e,c⟩,r⟩
 | rng lo hi=>obtain ⟨t,u,v,e⟩:=x;exact ⟨t,u,v,k _ _ (.inl rfl) e⟩
 | frz ob u ih=>obtain ⟨e,q⟩:=x;exact ⟨k _ _ (.inl rfl) e,ih q⟩
 | tbl ps=>
  have e:h.get? a=some {cls:= .none,data:= .fields ps}:=x;show h'.get? a=some {cls:= .none,data:= .fields ps};exact k a _ (.inl rfl) e
 | met f y=>
  have e:h.get? a=some (PySem.W.methodObj (.ref f) (.ref y)):=x;show h'.get? a=some (PySem.W.methodObj (.ref f) (.ref y));exact k a _ (.inl rfl) e
 | ext φ=>obtain ⟨p,⟨o,e⟩,st⟩:=x;exact ⟨st _ _ p fun o q=>k _ _ (.inl rfl) q,⟨o,k _ _ (.inl rfl) e⟩,st⟩
theorem HOk.lt (x:HOk P w H h) (e:H a=some o):a<h.objs.size:=(x a o e).lt
theorem HOk.fresh (x:HOk P w H h) (e:h.objs.size≤a):H a=none:=by
 cases q:H a with
 | none=>rfl
 | some u=>exact absurd (Bk (x.lt q) e) (Df _)
theorem HOk.kept (x:HOk P w H h) (k:∀ b u,h.get? b=some u→h'.get? b=some u):HOk P w H h':=fun a o e=>
 (x a o e).stay (fun b u _ q=>k b u q) (fun _ q=>q) fun _ _ q=>q
theorem HOk.laid (x:HOk P w H h) (k:∀ b u,h.get? b=some u→h'.get? b=some u) (hp:h.objs.size≤a) (new:zt P w (upd H a o) h' a o):HOk P w (upd H a o) h':=fun b u e=>by
 have hn:=x.fresh hp
 by_cases hb:b=a
 ·subst hb;rw [upd_same] at e;cases e;exact new
 ·rw [qo hb] at e;exact (x b u e).stay (fun c v _ q=>k c v q) (fun c q=>by rw [qo (qr q hn)];exact q) fun c xs q=>by rw [qo (qr q hn)];exact q
end
def Rd (H:Hp) (a:Ac) (u:HO):Prop:=H a=some u∨∃ o,H a=some (.frz o u)
theorem Rd.ok {P:Program} {w:World} {H:Hp} {h:Heap} {a:Ac} {u:HO} (r:Rd H a u) (x:HOk P w H h):zt P w H h a u:=by
 rcases r with r | ⟨o,r⟩
 ·exact x a u r
 ·obtain ⟨_,q⟩:=x a _ r;exact q
def Mut:Option HO→Prop
 | some (.lst _)=>True
 | some (.dK _)=>True
 | some (.dT _)=>True
 | some (.set _ _)=>True
 | some (.ins _ _ _)=>True
 | some (.ext _)=>True
 | _=>False
section
variable {P:Program} {w:World} {H:Hp} {h h':Heap} {x e:Ac} {o':HO}
theorem HOk.write (ok:HOk P w H h) (mu:Mut (H x)) (he:e=x∨H e=some (.own x)) (k:∀ b u,b≠e→h.get? b=some u→h'.get? b=some u) (heo:∃ u,h'.get? e=some u)
  (new:zt P w (upd H x o') h' x o'):HOk P w (upd H x o') h':=fun b u q=>by
 have nown:∀ c y,H c=some (.own y)→c≠x:=fun c y r z=>by subst z;rw [r] at mu;exact mu
 have ntup:∀ c xs,H c=some (.tup xs)→c≠x:=fun c xs r z=>by subst z;rw [r] at mu;exact mu
 by_cases hb:b=x
 ·subst hb;rw [upd_same] at q;cases q;exact new
 ·rw [qo hb] at q
  by_cases hbe:b=e
  ·have q':H b=some (.own x):=by
    rcases he with z | z
    ·exact absurd (hbe.trans z) hb
    ·rw [hbe];exact z
   rw [q] at q';cases q';obtain ⟨v,hv⟩:=heo;exact ⟨v,by rw [hbe];exact hv⟩
  ·refine (ok b u q).stay (fun c v hc r=>k c v ?_ r) (fun c r=>by rw [qo (nown c b r)];exact r) fun c xs r=>by rw [qo (ntup c xs r)];exact r
   rcases hc with rfl | hc
   ·exact hbe
   ·rintro rfl;rcases he with z | z
    ·exact nown c b hc z
    ·rw [hc] at z;cases z;exact hb rfl
end
structure Un (fs ex:List Ac) (H H':Hp) (h h':Heap):Prop where
 keep:∀ b o,h.get? b=some o→H b=none→b∉fs→b∉ex→h'.get? b=some o
 slot:∀ b o,h.get? b=some o→H b=none→b∈fs→b∉ex→∃ sl,h'.get? b=some {o with slots:=sl}
 free:∀ b o,h.get? b=some o→H b=none→b∉ex→H' b=none
 there:∀ b o,h.get? b=some o→b∉ex→∃ o',h'.get? b=some o'
 tups:∀ b xs,H b=some (.tup xs)→H' b=some (.tup xs)
 frzs:∀ b o u,H b=some (.frz o u)→H' b=some (.frz o u)
 tbls:∀ b ps,H b=some (.tbl ps)→∃ more,H' b=some (.tbl (ps++more))
section
variable {fs fs' ex ex':List Ac} {H H1 H2:Hp} {h h1 h2 h':Heap} {a x e:Ac} {o:HO}
theorem Un.any (u:Un fs ex H H1 h h1) {b:Ac} {ob:Obj} (q:h.get? b=some ob) (n:H b=none) (hx:b∉ex):∃ sl,h1.get? b=some {ob with slots:=sl}:=by
 by_cases hb:b∈fs
 ·exact u.slot b ob q n hb hx
 ·exact ⟨ob.slots,u.keep b ob q n hb hx⟩
theorem Un.kept (k:∀ b u,h.get? b=some u→h'.get? b=some u):Un fs ex H H h h':=
 ⟨fun b ob q _ _ _=>k b ob q,fun b ob q _ _ _=>⟨ob.slots,k b ob q⟩,fun _ _ _ n _=>n,fun b ob q _=>⟨ob,k b ob q⟩,fun _ _ q=>q,fun _ _ _ q=>q,fun _ ps q=>⟨#[],by rw [q];simp⟩⟩
theorem Un.refl:Un fs ex H H h h:=Un.kept fun _ _ q=>q
theorem Un.laid (k:∀ b u,h.get? b=some u→h'.get? b=some u) (hp:h.objs.size≤a) (hn:H a=none):Un fs ex H (upd H a o) h h' where
 keep:=fun b u q _ _ _=>k b u q
 slot:=fun b u q _ _ _=>⟨u.slots,k b u q⟩
 free:=fun b u q n _=>by rw [qo (B1 (Bk (A9 q) hp))];exact n
 there:=fun b u q _=>⟨u,k b u q⟩
 tups:=fun b xs q=>by rw [qo (qr q hn)];exact q
 frzs:=fun b u xs q=>by rw [qo (qr q hn)];exact q
 tbls:=fun b ps q=>⟨#[],by rw [qo (qr q hn),q];simp⟩
theorem Un.write (mu:Mut (H x)) (he:e=x∨H e=some (.own x)) (k:∀ b u,b≠e→h.get? b=some u→h'.get? b=some u) (heo:∃ u,h'.get? e=some u):Un fs ex H (upd H x o) h h':=by
 have hx:∀ b,H b=none→b≠x:=fun b n z=>by subst z;rw [n] at mu;exact mu
 have hb:∀ b,H b=none→b≠e:=fun b n z=>by
  subst z;rcases he with r | r
  ·exact hx b n r
  ·rw [n] at r;cases r
 have hm:∀ b u,H b=some u→¬ Mut (some u)→b≠x:=fun b u q nm z=>by subst z;rw [q] at mu;exact nm mu
 refine ⟨fun b u q n _ _=>k b u (hb b n) q,fun b u q n _ _=>⟨u.slots,k b u (hb b n) q⟩,fun b u q n _=>by rw [qo (hx b n)];exact n,fun b u q _=>?_,
  fun b xs q=>by rw [qo (hm b _ q fun z=>z)];exact q,fun b u xs q=>by rw [qo (hm b _ q fun z=>z)];exact q,fun b ps q=>⟨#[],by rw [qo (hm b _ q fun z=>z),q];simp⟩⟩
 by_cases hbe:b=e
 ·subst hbe;exact heo
 ·exact ⟨u,k b u hbe q⟩
end
def trk (h:Heap) (H:Hp):List Ac:=(List.range h.objs.size).filter fun a=>(H a).isSome
def y8 (h:Heap) (H:Hp):Heap:=PySem.W.hideAll h (trk h H)
theorem Qn (h:Heap) (H:Hp):(y8 h H).objs.size=h.objs.size:=PySem.W.hideAll_size _ _
theorem qbi {h:Heap} {H:Hp} {b:Ac} {o:Obj} (e:h.get? b=some o) (n:H b=none):(y8 h H).get? b=some o:=
 PySem.W.hideAll_get _ e fun hm=>by
  have q:(H b).isSome=true:=(Dp.mp hm).2;rw [n] at q;simp at q
theorem qde {h:Heap} {H:Hp} {b:Ac} {o:Obj} (e:(y8 h H).get? b=some o):h.get? b=some o∧H b=none:=by
 have e':h.get? b=some o:=PySem.W.of_hideAll (trk h H) e;refine ⟨e',?_⟩;cases q:H b with
 | none=>rfl
 | some x=>
  have hm:b∈trk h H:=Dp.mpr ⟨D0.mpr (A9 e'),by simp [q]⟩
  have z:(y8 h H).get? b=none:=PySem.W.hideAll_none (trk h H) hm;rw [z] at e;cases e
def qel (g h:Heap) (L:Ac):List (Ac×Obj):=(List.range h.objs.size).filterMap fun a=>if a=L∨(g.get? a).isSome=true then none else (h.get? a).map fun o=>(a,o)
def rest (g h:Heap) (L d:Ac):List (Ac×Obj):=(qel g h L).filter fun p=>decide (p.1≠d)
structure Mod (K:Frag) (mg:Str→Option Ab) (base:Heap):Prop where
 kin:K.In base
 glob:base.Ns Ap mg
 blt:∃ mb,base.Ns builtinsNs mb∧∀ x:Str,x≠"__name__"→mb x=bootBuiltins x
 nolimit:base.NoLimit
structure Cx where
 prog:Program
 w:World
 K:Frag
 mg:Str→Option Ab
 base:Heap
 A:Around
 N:List Str
 s₀:Ae
 H₀:Hp
 env:Env
 outer:List Env
 stack:List Env
 ex:List Ac
 fn:Str→Bool
 calm:Bool
 pn:List (Ac×Obj)
 xe:Ab→Ae→Prop
def frs (l:List Env):List Ac:=l.filterMap (·.frame)
abbrev Cx.fs (X:Cx):List Ac:=frs X.outer
def Vis (sc:Scope) (x:Str):Prop:=sc.names.lookup x=some .local∨sc.names.lookup x=some .cell∨sc.names.lookup x=some .free
def Loc (sc:Scope) (x:Str):Prop:=sc.names.lookup x=some .local∨sc.names.lookup x=some .cell
def Look (env:Env) (h:Heap) (m:Str→Option Ab) (x:Str) (u:Ab):Prop:=
 (env.kindOf x=some .local∧m x=some u)∨((env.kindOf x=some .cell∨env.kindOf x=some .free)∧∃ c,env.cells.lookup x=some c∧h.IsCell c (some u))
structure Cx.Ok (X:Cx):Prop where
 mod:Mod X.K X.mg X.base
 kind:X.env.scope.kind= .function
 glob:X.env.globals=Ap
 blt:X.env.builtins=builtinsNs
 above:X.s₀.heap.objs.size≤X.env.locals
 inj:∀ x y c,X.env.cells.lookup x=some c→X.env.cells.lookup y=some c→x=y
 has:∀ x,(X.env.kindOf x=some .cell∨X.env.kindOf x=some .free)→∃ c,X.env.cells.lookup x=some c
 cab:∀ x c,X.fn x=true→X.env.cells.lookup x=some c→X.s₀.heap.objs.size≤c
 hd:X.calm=true→X.A.handled=none
 frames:X.A.frames=some X.stack
 stk:X.stack=X.outer∨(X.stack=X.env::X.outer∧X.env.frame=some X.env.locals)
 exf:∀ b∈X.ex,b≠X.env.locals∧∀ x c,X.env.cells.lookup x=some c→c≠b
 bs:∀ b o,X.base.get? b=some o→X.s₀.heap.get? b=some o∧X.H₀ b=none
 bsz:X.base.objs.size≤X.s₀.heap.objs.size
 noex:∀ b o,X.base.get? b=some o→b∉X.ex
 exfs:∀ b∈X.ex,b∉X.fs
 funs:X.s₀.heap.FunFrames X.base X.outer
 frf:∀ b∈X.fs,X.H₀ b=none
structure Inv (X:Cx) (pins:List (Ac×Obj)) (σ:List (Option V)) (H:Hp) (s:Ae):Prop where
 ok:X.Ok
 os:s.os=X.s₀.os
 bare:AllBare s.gens
 base:Un X.fs X.ex X.H₀ H X.s₀.heap s.heap
 loc:∃ m,s.heap.Ns X.env.locals m∧∀ (i:Nat) (x:Str) (v:V),X.N[i]?=some x→σ[i]?=some (some v)→Vis X.env.scope x→∃ u,qz v u∧Look X.env s.heap m x u
 cell:∀ x c,X.env.cells.lookup x=some c→∃ v,s.heap.IsCell c v
 free:H X.env.locals=none
 freeC:∀ x c,X.env.cells.lookup x=some c→H c=none
 pin:∀ p∈X.pn++pins,s.heap.get? p.1=some p.2∧H p.1=none∧p.1≠X.env.locals∧p.1∉X.fs∧∀ v,p.2.data≠ .cell v
 hok:HOk X.prog X.w H s.heap
 len:σ.length=X.N.length
section
variable {X:Cx} {pins:List (Ac×Obj)} {σ:List (Option V)} {H H':Hp} {s:Ae} {h':Heap}
theorem Cx.Ok.nofr (ok:X.Ok) {b:Ac} {o:Obj} (e:X.base.get? b=some o):b∉X.fs:=fun hb=>by
 have:=(ok.funs.mem hb).1;rw [e] at this;cases this
theorem Inv.bs (I:Inv X pins σ H s):∀ b o,X.base.get? b=some o→s.heap.get? b=some o∧H b=none:=fun b o e=>
 ⟨I.base.keep b o (I.ok.bs b o e).1 (I.ok.bs b o e).2 (I.ok.nofr e) (I.ok.noex b o e),I.base.free b o (I.ok.bs b o e).1 (I.ok.bs b o e).2 (I.ok.noex b o e)⟩
theorem Inv.bk (I:Inv X pins σ H s):∀ b o,X.base.get? b=some o→s.heap.get? b=some o:=fun b o e=>(I.bs b o e).1
theorem Inv.mod (I:Inv X pins σ H s):Mod X.K X.mg X.base:=I.ok.mod
theorem Inv.kIn (I:Inv X pins σ H s):X.K.In s.heap:=I.ok.mod.kin.keeps I.bk
theorem Inv.fr (I:Inv X pins σ H s):∃ m,Fr X.base X.env.locals s.heap m:=
 let ⟨m,hn,_⟩:=I.loc
 ⟨m,hn,I.bk,As I.ok.bsz I.ok.above⟩
theorem Inv.lt (I:Inv X pins σ H s):X.env.locals<s.heap.objs.size:=let ⟨_,hn,_⟩:=I.loc;hn.lt
theorem Inv.sz (I:Inv X pins σ H s):X.s₀.heap.objs.size≤s.heap.objs.size:=As I.ok.above (Nat.le_of_lt I.lt)
theorem Inv.nofs (I:Inv X pins σ H s) {a:Ac} (h:s.heap.objs.size≤a):a∉X.fs:=fun hb=>by
 obtain ⟨_,o,ho,_⟩:=I.ok.funs.mem hb;exact absurd (Bk (A9 ho) (As I.sz h)) (Df _)
theorem Inv.cne (I:Inv X pins σ H s):∀ x c,X.env.cells.lookup x=some c→c≠X.env.locals:=fun x c e z=>by
 obtain ⟨v,o,ho,hd⟩:=I.cell x c e;obtain ⟨m,⟨o',es,ep,ho',hd',_⟩,_⟩:=I.loc;rw [z,ho'] at ho;cases ho;rw [hd'] at hd;cases hd
theorem Inv.funs (I:Inv X pins σ H s):s.heap.FunFrames X.base X.outer:=by
 have all:∀ (l:List Env),(∀ b∈frs l,b∈X.fs)→X.s₀.heap.FunFrames X.base l→s.heap.FunFrames X.base l:=by
  intro l
  induction l with
  | nil=>intro _ _;trivial
  | cons env r ih=>
   intro hs hl;obtain ⟨hk,⟨L,o,hf,hn,ho,hd⟩,hr⟩:=hl;have hL:L∈X.fs:=hs L (by unfold frs;rw [List.filterMap_cons,hf];exact Bi)
   obtain ⟨sl,e⟩:=I.base.slot L o ho (I.ok.frf L hL) hL fun z=>I.ok.exfs L z hL;exact ⟨hk,⟨L,_,hf,hn,e,hd⟩,ih (fun b hb=>hs b (by unfold frs;rw [List.filterMap_cons,hf];exact Bg _ hb)) hr⟩
 exact all X.outer (fun _ hb=>hb) I.ok.funs
theorem Inv.stack (I:Inv X pins σ H s):s.heap.FunFrames X.base X.stack:=by
 rcases I.ok.stk with e | ⟨e,hf⟩
 ·rw [e];exact I.funs
 ·rw [e];obtain ⟨m,hn,_⟩:=I.loc;refine .cons (by rw [I.ok.kind];decide) hf hn ?_ I.funs
  exact D6 (As I.ok.bsz I.ok.above)
theorem Inv.stkSub (I:Inv X pins σ H s):∀ b∈frs X.stack,b∈X.env.locals::X.fs:=fun b hb=>by
 rcases I.ok.stk with e | ⟨e,hf⟩
 ·rw [e] at hb;exact Bg _ hb
 ·rw [e] at hb;unfold frs at hb;rw [List.filterMap_cons,hf] at hb;exact hb
theorem Inv.stkFree (I:Inv X pins σ H s):∀ b∈frs X.stack,H b=none:=fun b hb=>by
 rcases Av.mp (I.stkSub b hb) with e | hb
 ·rw [e];exact I.free
 ·obtain ⟨_,o,ho,_⟩:=I.ok.funs.mem hb;exact I.base.free b o ho (I.ok.frf b hb) fun z=>I.ok.exfs b z hb
theorem Inv.step {g':Array GenState} {t':Nat} {d':Drawn} {ch:List Ac} (I:Inv X pins σ H s)
  (hch:∀ b∈ch,(b∈X.ex∨X.s₀.heap.objs.size≤b)∧b≠X.env.locals∧(∀ x c,X.env.cells.lookup x=some c→c≠b)∧∀ p∈X.pn++pins,p.1≠b)
  (keep:∀ b o,b≠X.env.locals→b∉X.fs→b∉ch→s.heap.get? b=some o→H b=none→h'.get? b=some o)
  (slot:∀ b o,b≠X.env.locals→b∈X.fs→b∉ch→s.heap.get? b=some o→H b=none→∃ sl,h'.get? b=some {o with slots:=sl}) (free:∀ b o,b∉ch→s.heap.get? b=some o→H b=none→H' b=none)
  (there:∀ b o,b∉ch→s.heap.get? b=some o→∃ o',h'.get? b=some o')
  (tups:∀ b xs,H b=some (.tup xs)→H' b=some (.tup xs)) (frzs:∀ b o u,H b=some (.frz o u)→H' b=some (.frz o u)) (tbls:∀ b ps,H b=some (.tbl ps)→∃ more,H' b=some (.tbl (ps++more)))
  (ns:∀ m,s.heap.Ns X.env.locals m→h'.Ns X.env.locals m) (hok:HOk X.prog X.w H' h') (hg:AllBare g'):
  Inv X pins σ H' {s with heap:=h',gens:=g',drawn:=d',toks:=t'}:=by
 have neL:∀ b o,X.s₀.heap.get? b=some o→b≠X.env.locals:=fun b o e=>B1 (Bk (A9 e) I.ok.above);have neC:∀ b o,X.s₀.heap.get? b=some o→b∉X.ex→b∉ch:=fun b o e hx hb=>by
  rcases (hch b hb).1 with z | z
  ·exact hx z
  ·exact absurd (Bk (A9 e) z) (Df _)
 have cellK:∀ x c,X.env.cells.lookup x=some c→∀ v,s.heap.IsCell c v→h'.IsCell c v:=fun x c e v ⟨o,ho,hd⟩=>by
  have nch:c∉ch:=fun z=>(hch c z).2.2.1 x c e rfl
  by_cases hc:c∈X.fs
  ·obtain ⟨sl,q⟩:=slot c o (I.cne x c e) hc nch ho (I.freeC x c e);exact ⟨_,q,hd⟩
  ·exact ⟨o,keep c o (I.cne x c e) hc nch ho (I.freeC x c e),hd⟩
 refine ⟨I.ok,I.os,hg,⟨fun b o e n hb hx=>?_,fun b o e n hb hx=>?_,fun b o e n hx=>?_,fun b o e hx=>?_,fun b xs e=>tups b xs (I.base.tups b xs e),fun b o xs e=>frzs b o xs (I.base.frzs b o xs e),fun b ps e=>?_⟩,?_,fun x c e=>?_,?_,fun x c e=>?_,fun p hp=>?_,hok,I.len⟩
 ·exact keep b o (neL b o e) hb (neC b o e hx) (I.base.keep b o e n hb hx) (I.base.free b o e n hx)
 ·obtain ⟨sl,e1⟩:=I.base.slot b o e n hb hx;obtain ⟨sl',e2⟩:=slot b _ (neL b o e) hb (neC b o e hx) e1 (I.base.free b o e n hx);exact ⟨sl',e2⟩
 ·obtain ⟨o',e1⟩:=I.base.there b o e hx;exact free b o' (neC b o e hx) e1 (I.base.free b o e n hx)
 ·obtain ⟨o',e1⟩:=I.base.there b o e hx;exact there b o' (neC b o e hx) e1
 ·obtain ⟨m1,e1⟩:=I.base.tbls b ps e;obtain ⟨m2,e2⟩:=tbls b _ e1;exact ⟨m1++m2,by rw [e2,Array.append_assoc]⟩
 ·obtain ⟨m,hn,hl⟩:=I.loc;refine ⟨m,ns m hn,fun i x v e1 e2 e3=>?_⟩;obtain ⟨u,r,l⟩:=hl i x v e1 e2 e3;refine ⟨u,r,?_⟩;rcases l with l | ⟨k,c,e,z⟩
  ·exact .inl l
  ·exact .inr ⟨k,c,e,cellK x c e _ z⟩
 ·obtain ⟨v,z⟩:=I.cell x c e;exact ⟨v,cellK x c e v z⟩
 ·obtain ⟨m,⟨o,_,_,ho,_⟩,_⟩:=I.loc;exact free _ o (fun z=>(hch _ z).2.1 rfl) ho I.free
 ·obtain ⟨v,o,ho,hd⟩:=I.cell x c e;exact free c o (fun z=>(hch c z).2.2.1 x c e rfl) ho (I.freeC x c e)
 ·obtain ⟨e,n,ne,nf,d⟩:=I.pin p hp;have nch:p.1∉ch:=fun z=>(hch p.1 z).2.2.2 p hp rfl;exact ⟨keep p.1 p.2 ne nf nch e n,free p.1 p.2 nch e n,ne,nf,d⟩
theorem Inv.un {t':Nat} (I:Inv X pins σ H s) (u:Un X.fs [] H H' s.heap h') (hok:HOk X.prog X.w H' h'):Inv X pins σ H' {s with heap:=h',toks:=t'}:=by
 obtain ⟨m,⟨o,es,ep,ho,r⟩,_⟩:=id I.loc;obtain ⟨sl,hL⟩:=u.any ho I.free (by simp)
 exact I.step (g':=s.gens) (d':=s.drawn) (ch:=[]) (fun _ z=>nomatch z) (fun b o _ hb _ e n=>u.keep b o e n hb (by simp)) (fun b o _ hb _ e n=>u.slot b o e n hb (by simp)) (fun b o _ e n=>u.free b o e n (by simp)) (fun b o _ e=>u.there b o e (by simp)) u.tups u.frzs u.tbls (fun m' hm=>by
  obtain ⟨o',es',ep',ho',r'⟩:=hm;rw [ho] at ho';cases ho';exact ⟨_,es',ep',hL,r'⟩) hok I.bare
theorem Inv.call {g':Array GenState} {t':Nat} {d':Drawn} {ch:List Ac} (I:Inv X pins σ H s) (u:Un (frs X.stack) ch H H' s.heap h') (hok:HOk X.prog X.w H' h') (hg:AllBare g')
  (hch:∀ b∈ch,(b∈X.ex∨X.s₀.heap.objs.size≤b)∧b≠X.env.locals∧(∀ x c,X.env.cells.lookup x=some c→c≠b)∧∀ p∈X.pn++pins,p.1≠b):
  Inv X pins σ H' {s with heap:=h',gens:=g',drawn:=d',toks:=t'}:=by
 obtain ⟨m,⟨o,es,ep,ho,r⟩,_⟩:=id I.loc;obtain ⟨sl,hL⟩:=u.any ho I.free fun z=>(hch _ z).2.1 rfl;exact I.step (ch:=ch) hch (fun b o hL hb hc e n=>u.keep b o e n (fun z=>(Av.mp (I.stkSub b z)).elim hL hb) hc) (fun b o _ _ hc e n=>u.any e n hc) (fun b o hc e n=>u.free b o e n hc) (fun b o hc e=>u.there b o e hc) u.tups u.frzs u.tbls (fun m' hm=>by
  obtain ⟨o',es',ep',ho',r'⟩:=hm;rw [ho] at ho';cases ho';exact ⟨_,es',ep',hL,r'⟩) hok hg
theorem Inv.turned {t':Nat} {it:Ac} (I:Inv X pins σ H s) (k:∀ b o,b≠it→s.heap.get? b=some o→h'.get? b=some o) (hn:H it=none) (hL:it≠X.env.locals)
  (h1:it∈X.ex∨X.s₀.heap.objs.size≤it) (h2:∀ x c,X.env.cells.lookup x=some c→c≠it) (h3:∀ p∈X.pn++pins,p.1≠it):Inv X pins σ H {s with heap:=h',toks:=t'}:=by
 have nit:∀ b u,H b=some u→b≠it:=fun b u e z=>by rw [z,hn] at e;cases e
 refine I.step (g':=s.gens) (d':=s.drawn) (ch:=[it]) (fun b hb=>?_) (fun b o _ _ hc e _=>k b o (fun z=>hc (by simp [z])) e) (fun b o _ _ hc e _=>⟨o.slots,k b o (fun z=>hc (by simp [z])) e⟩) (fun _ _ _ _ n=>n)
  (fun b o hc e=>⟨o,k b o (fun z=>hc (by simp [z])) e⟩) (fun _ _ e=>e) (fun _ _ _ e=>e) (fun b ps e=>⟨#[],by rw [e];simp⟩) (fun m hm=>?_) (fun b u e=>?_) I.bare
 ·have e:b=it:=by simpa using hb
  subst e;exact ⟨h1,hL,h2,h3⟩
 ·obtain ⟨o,es,ep,ho,r⟩:=hm;exact ⟨o,es,ep,k _ o (Ne.symm hL) ho,r⟩
 ·refine (I.hok b u e).stay (fun c v hc q=>k c v ?_ q) (fun _ q=>q) fun _ _ q=>q;rcases hc with z | z
  ·rw [z];exact nit b u e
  ·exact nit c _ z
theorem Inv.tok (I:Inv X pins σ H s) (t:Nat):Inv X pins σ H {s with toks:=t}:=I.un (h':=s.heap) (t':=t) Un.refl I.hok
theorem Inv.kept {t':Nat} (I:Inv X pins σ H s) (k:∀ b u,s.heap.get? b=some u→h'.get? b=some u):Inv X pins σ H {s with heap:=h',toks:=t'}:=I.un (Un.kept k) (I.hok.kept k)
theorem Inv.laid {a:Ac} {o:HO} {t':Nat} (I:Inv X pins σ H s) (k:∀ b u,s.heap.get? b=some u→h'.get? b=some u) (hp:s.heap.objs.size≤a) (new:zt X.prog X.w (upd H a o) h' a o):
  Inv X pins σ (upd H a o) {s with heap:=h',toks:=t'}:=I.un (Un.laid k hp (I.hok.fresh hp)) (I.hok.laid k hp new)
theorem Inv.write {x e:Ac} {o:HO} {t':Nat} (I:Inv X pins σ H s) (mu:Mut (H x)) (he:e=x∨H e=some (.own x)) (k:∀ b u,b≠e→s.heap.get? b=some u→h'.get? b=some u) (heo:∃ u,h'.get? e=some u)
  (new:zt X.prog X.w (upd H x o) h' x o):Inv X pins σ (upd H x o) {s with heap:=h',toks:=t'}:=I.un (Un.write mu he k heo) (I.hok.write mu he k heo new)
theorem Inv.weak {σ':List (Option V)} (I:Inv X pins σ H s) (hl:σ'.length=σ.length) (w:∀ (i:Nat) v,σ'[i]?=some (some v)→σ[i]?=some (some v)):Inv X pins σ' H s:=
 ⟨I.ok,I.os,I.bare,I.base,let ⟨m,hn,hl'⟩:=I.loc;⟨m,hn,fun i x v e1 e2 e3=>hl' i x v e1 (w i v e2) e3⟩,I.cell,I.free,I.freeC,I.pin,I.hok,hl.trans I.len⟩
theorem Inv.pins_of {pins':List (Ac×Obj)} (I:Inv X pins σ H s) (h:∀ p∈pins',s.heap.get? p.1=some p.2∧H p.1=none∧p.1≠X.env.locals∧p.1∉X.fs∧∀ v,p.2.data≠ .cell v):Inv X pins' σ H s:=
 ⟨I.ok,I.os,I.bare,I.base,I.loc,I.cell,I.free,I.freeC,fun p hp=>(Az.mp hp).elim (fun z=>I.pin p (Ea _ z)) (h p),I.hok,I.len⟩
theorem YU {N:List Str} (hN:N.Nodup) {i j:Nat} {x:Str} (a:N[i]?=some x) (b:N[j]?=some x):i=j:=by
 obtain ⟨h1,e1⟩:=A2.mp a;obtain ⟨h2,e2⟩:=A2.mp b;exact (List.getElem_inj hN).mp (e1.trans e2.symm)
theorem WY {M:Model} {A:Around} {E:Ab→Ae→Prop} {i:Nat} {x:Str} {v:V} {u:Ab} {Q:Unit→Ae→Prop} (I:Inv X pins σ H s) (hN:X.N.Nodup) (hi:X.N[i]?=some x) (hx:Loc X.env.scope x) (r:qz v u)
  (h:∀ s',Inv X pins (σ.set i (some v)) H s'→(∃ a,Heap.SameBut a s.heap s'.heap∧(a=X.env.locals∨X.env.cells.lookup x=some a))→Q () s') (hf:X.fn x=true∨X.env.scope.names.lookup x=some .local:=by first | exact .inl rfl | exact .inr rfl | assumption):wpAny M A (storeName X.env x u) Q E s:=by
 obtain ⟨m,hn,hl⟩:=id I.loc;have hcls:(X.env.scope.kind== .class||(X.env.scope.kind== .module&&X.env.locals !=X.env.globals))=false:=by rw [I.ok.kind];rfl
 have hiσ:i<σ.length:=by rw [I.len];exact (A2.mp hi).1
 have cne:=I.cne;have tracked:∀ {a:Ac} {h':Heap},(∃ o,s.heap.get? a=some o∧H a=none)→Heap.SameBut a s.heap h'→HOk X.prog X.w H h':=fun {a h'} ha hs b ob e=>by
  obtain ⟨_,_,hfree⟩:=ha;refine (I.hok b ob e).stay (fun c w' hc q=>(hs.2 c ?_).trans q) (fun _ q=>q) fun _ _ q=>q;rintro rfl;rcases hc with rfl | hc
  ·rw [hfree] at e;cases e
  ·rw [hfree] at hc;cases hc
 rcases hx with hk | hk
 ·refine wpAny_storeName_local hk hn (fun h' hn' hs=>?_) hcls;obtain ⟨oL,_,_,hoL,_⟩:=id hn;refine h _ ⟨I.ok,I.os,I.bare,⟨fun b o e n hb hx=>?_,fun b o e n hb hx=>?_,I.base.free,fun b o e hx=>?_,I.base.tups,I.base.frzs,I.base.tbls⟩,⟨_,hn',fun j y v' e1 e2 e3=>?_⟩,fun y c e=>?_,I.free,I.freeC,fun p hp=>?_,tracked ⟨oL,hoL,I.free⟩ hs,by simpa using I.len⟩ ⟨_,hs,.inl rfl⟩
  ·exact (hs.2 b (B1 (Bk (A9 e) I.ok.above))).trans (I.base.keep b o e n hb hx)
  ·obtain ⟨sl,e1⟩:=I.base.slot b o e n hb hx;exact ⟨sl,(hs.2 b (B1 (Bk (A9 e) I.ok.above))).trans e1⟩
  ·obtain ⟨o',e1⟩:=I.base.there b o e hx;exact ⟨o',(hs.2 b (B1 (Bk (A9 e) I.ok.above))).trans e1⟩
  ·by_cases hj:j=i
   ·subst hj;rw [hi] at e1;cases e1;rw [List.getElem?_set_self hiσ] at e2;cases e2;exact ⟨u,r,.inl ⟨hk,by simp⟩⟩
   ·rw [Di (Ne.symm hj)] at e2;obtain ⟨u',r',q⟩:=hl j y v' e1 e2 e3;refine ⟨u',r',?_⟩;rcases q with ⟨k,e⟩ | ⟨k,c,e,z⟩
    ·refine .inl ⟨k,?_⟩;have:y≠x:=fun e=>hj (YU hN e1 (e▸hi));simp [this,e]
    ·exact .inr ⟨k,c,e,z.sameBut hs (cne y c e)⟩
  ·obtain ⟨w',z⟩:=I.cell y c e;exact ⟨w',z.sameBut hs (cne y c e)⟩
  ·obtain ⟨e,n,ne,nf,d⟩:=I.pin p hp;exact ⟨(hs.2 p.1 ne).trans e,n,ne,nf,d⟩
 ·have hfn:X.fn x=true:=by
   rcases hf with z | z
   ·exact z
   ·rw [z] at hk;cases hk
  obtain ⟨c,hc⟩:=I.ok.has x (.inl hk);obtain ⟨w',z⟩:=I.cell x c hc;refine wpAny_storeName_cell I.ok.kind hk hc z (fun h' hc' hs=>?_);obtain ⟨oc,hoc,hocd⟩:=id z;refine h {s with heap:=h'} ⟨I.ok,I.os,I.bare,⟨fun b o e n hb hx=>?_,fun b o e n hb hx=>?_,I.base.free,fun b o e hx=>?_,I.base.tups,I.base.frzs,I.base.tbls⟩,⟨m,hn.sameBut hs (Ne.symm (cne x c hc)),fun j y v' e1 e2 e3=>?_⟩,fun y c' e=>?_,I.free,I.freeC,fun p hp=>?_,tracked ⟨oc,hoc,I.freeC x c hc⟩ hs,by simpa using I.len⟩ ⟨c,hs,.inr hc⟩
  ·exact (hs.2 b (B1 (Bk (A9 e) (I.ok.cab x c hfn hc)))).trans (I.base.keep b o e n hb hx)
  ·obtain ⟨sl,e1⟩:=I.base.slot b o e n hb hx;exact ⟨sl,(hs.2 b (B1 (Bk (A9 e) (I.ok.cab x c hfn hc)))).trans e1⟩
  ·obtain ⟨o',e1⟩:=I.base.there b o e hx;exact ⟨o',(hs.2 b (B1 (Bk (A9 e) (I.ok.cab x c hfn hc)))).trans e1⟩
  ·by_cases hj:j=i
   ·subst hj;rw [hi] at e1;cases e1;rw [List.getElem?_set_self hiσ] at e2;cases e2;exact ⟨u,r,.inr ⟨.inl hk,c,hc,hc'⟩⟩
   ·rw [Di (Ne.symm hj)] at e2;obtain ⟨u',r',q⟩:=hl j y v' e1 e2 e3;refine ⟨u',r',?_⟩;rcases q with q | ⟨k,c',e,z'⟩
    ·exact .inl q
    ·refine .inr ⟨k,c',e,z'.sameBut hs ?_⟩;rintro rfl;exact hj (YU hN e1 (I.ok.inj _ _ _ e hc▸hi))
  ·by_cases hcc:c'=c
   ·subst hcc;exact ⟨_,hc'⟩
   ·obtain ⟨w2,z2⟩:=I.cell y c' e;exact ⟨w2,z2.sameBut hs hcc⟩
  ·obtain ⟨e,n,ne,nf,d⟩:=I.pin p hp;refine ⟨(hs.2 p.1 ?_).trans e,n,ne,nf,d⟩;intro q;rw [q,hoc] at e;have q':oc=p.2:=Bh e;exact d w' (by rw [← q'];exact hocd)
theorem wQ {M:Model} {A:Around} {E:Ab→Ae→Prop} {i:Nat} {x:Str} {v:V} {u:Ab} {Q:Unit→Ae→Prop} (I:Inv X pins σ H s) (hN:X.N.Nodup) (hi:X.N[i]?=some x) (hx:Loc X.env.scope x) (r:qz v u)
  (h:∀ s',Inv X pins (σ.set i (some v)) H s'→Q () s') (hf:X.fn x=true∨X.env.scope.names.lookup x=some .local:=by first | exact .inl rfl | exact .inr rfl | assumption):wpAny M A (storeName X.env x u) Q E s:=
 WY I hN hi hx r (fun s' I' _=>h s' I') hf
theorem Inv.call' {s':Ae} {ch:List Ac} (I:Inv X pins σ H s) (ho:s'.os=s.os) (u:Un (frs X.stack) ch H H' s.heap s'.heap) (hok:HOk X.prog X.w H' s'.heap) (hg:AllBare s'.gens)
  (hch:∀ b∈ch,(b∈X.ex∨X.s₀.heap.objs.size≤b)∧b≠X.env.locals∧(∀ x c,X.env.cells.lookup x=some c→c≠b)∧∀ p∈X.pn++pins,p.1≠b):Inv X pins σ H' s':=by
 obtain ⟨h',g',d',t',o'⟩:=s';have e:o'=s.os:=ho;subst e;exact I.call (g':=g') (t':=t') (d':=d') u hok hg hch
end
abbrev XK:=Ab→Option Ac→Hp→Prop
abbrev St:=List (Option V)
abbrev VK:=V→Hp→Prop
abbrev TE:=St→Hp→VK→Prop
abbrev TT:=St→Hp→(Bool→Hp→Prop)→Prop
abbrev TA:=St→Hp→(List V→Hp→Prop)→Prop
structure Ends where
 nx:St→Hp→Prop
 rt:VK
 bk:St→Hp→Prop:=fun _ _=>False
 ct:St→Hp→Prop:=fun _ _=>False
abbrev TS:=Ends→St→Hp→Prop
def EP (X:Cx) (pins:List (Ac×Obj)) (σ:St) (Q:VK) (u:Ab) (s':Ae):Prop:=∃ v H',Inv X pins σ H' s'∧qz v u∧Q v H'
def TP (X:Cx) (pins:List (Ac×Obj)) (σ:St) (Q:Bool→Hp→Prop) (b:Bool) (s':Ae):Prop:=∃ H',Inv X pins σ H' s'∧Q b H'
def AP (X:Cx) (pins:List (Ac×Obj)) (σ:St) (Q:List V→Hp→Prop) (us:List Ab) (s':Ae):Prop:=∃ vs H',Inv X pins σ H' s'∧qK vs us∧Q vs H'
def SP (X:Cx) (pins:List (Ac×Obj)) (D:Ends) (f:Flow) (s':Ae):Prop:=
 match f with
 | .next=>∃ σ' H',Inv X pins σ' H' s'∧D.nx σ' H'
 | .brk=>∃ σ' H',Inv X pins σ' H' s'∧D.bk σ' H'
 | .cont=>∃ σ' H',Inv X pins σ' H' s'∧D.ct σ' H'
 | .ret u=>∃ v σ' H',Inv X pins σ' H' s'∧qz v u∧D.rt v H'
def PE (X:Cx) (e:Expr) (t:TE):Prop:=
 ∀ (pins:List (Ac×Obj)) (s:Ae) (σ:St) (H:Hp) (Q:VK),Inv X pins σ H s→t σ H Q→wpAny (model X.prog X.w) X.A (eval e X.env) (EP X pins σ Q) X.xe s
def PT (X:Cx) (e:Expr) (t:TT):Prop:=
 ∀ (pins:List (Ac×Obj)) (s:Ae) (σ:St) (H:Hp) (Q:Bool→Hp→Prop),Inv X pins σ H s→t σ H Q→wpAny (model X.prog X.w) X.A (isTrue e X.env (eval e X.env)) (TP X pins σ Q) X.xe s
def PW (X:Cx) (e:Expr) (t:TT):Prop:=
 ∀ (whole:Sem Ab) (pins:List (Ac×Obj)) (s:Ae) (σ:St) (H:Hp) (Q:Bool→Hp→Prop),Inv X pins σ H s→t σ H Q→wpAny (model X.prog X.w) X.A (isTrue e X.env whole) (TP X pins σ Q) X.xe s
theorem PW.pt {X:Cx} {e:Expr} {t:TT} (h:PW X e t):PT X e t:=h _
def PA (X:Cx) (es:List Expr) (t:TA):Prop:=
 ∀ (pos:Pos) (pins:List (Ac×Obj)) (s:Ae) (σ:St) (H:Hp) (Q:List V→Hp→Prop),Inv X pins σ H s→t σ H Q→wpAny (model X.prog X.w) X.A (spliced (backTo pos (starEach es X.env))) (AP X pins σ Q) X.xe s
def PS (X:Cx) (st:Stmt) (t:TS):Prop:=
 ∀ (pins:List (Ac×Obj)) (s:Ae) (σ:St) (H:Hp) (D:Ends),Inv X pins σ H s→t D σ H→wpAny (model X.prog X.w) X.A (exec st X.env) (SP X pins D) X.xe s
def PSs (X:Cx) (st:List Stmt) (t:TS):Prop:=
 ∀ (pins:List (Ac×Obj)) (s:Ae) (σ:St) (H:Hp) (D:Ends),Inv X pins σ H s→t D σ H→wpAny (model X.prog X.w) X.A (execs st X.env) (SP X pins D) X.xe s
theorem thn {α:Type} {t:Sem α} {Q Q':α→Ae→Prop} {M:Model} {A:Around} {E:Ab→Ae→Prop} {s:Ae} (h:wpAny M A t Q E s) (hQ:∀ a s,Q a s→Q' a s):wpAny M A t Q' E s:=Dq h hQ fun _ _ x=>x
section
variable {X:Cx}
def qG (i:Nat):TE:=fun σ H Q=>∃ v,σ[i]?=some (some v)∧Q v H
def tC (v:V):TE:=fun _ H Q=>Q v H
theorem qfw {i:Nat} {x:Str} {pos:Pos} (hN:X.N[i]?=some x) (hv:Vis X.env.scope x) (hd:(x==("__debug__":Str))=false:=by decide) (hcd:(x==("__classdict__":Str))=false:=by decide):PE X (.Name x pos) (qG i):=by
 intro pins s σ H Q I h;obtain ⟨v,e,h⟩:=h;obtain ⟨m,hn,hl⟩:=I.loc;obtain ⟨u,r,l⟩:=hl i x v hN e hv;have fin:EP X pins σ Q u s:=⟨v,H,I,r,h⟩;rcases l with ⟨hk,hm⟩ | ⟨hk,c,hc,hcell⟩
 ·exact wpAny_Name (wpAny_loadName_local I.ok.kind hk hn hm fin) hd
 ·rcases hk with hk | hk
  ·exact wpAny_Name (wpAny_loadName_cell I.ok.kind hk hc hcell fin) hd
  ·exact wpAny_Name (wpAny_loadName_free I.ok.kind hk hc hcell fin hcd) hd
theorem qc {i j pos}:PE X (.Constant (.int i) j pos) (tC (.int i)):=fun _ _ _ H _ I h=>wpAny_Constant_int ⟨.int i,H,I.tok _,⟨_,rfl⟩,h⟩
theorem zJ {b j pos}:PE X (.Constant (.bool b) j pos) (tC (.bl b)):=fun _ _ _ H _ I h=>Constant_bool ⟨.bl b,H,I,rfl,h⟩
theorem J8 {j pos}:PE X (.Constant .none j pos) (tC .non):=fun _ _ _ H _ I h=>Constant_none ⟨.non,H,I,rfl,h⟩
theorem qj {x j pos}:PE X (.Constant (.str x) j pos) (tC (.str x)):=fun _ _ _ H _ I h=>Calls.Constant_str ⟨.str x,H,I.tok _,⟨_,rfl⟩,h⟩
def Gl (X:Cx) (x:Str):Prop:=X.env.kindOf x=some .globalImplicit
theorem wI {E:Ab→Ae→Prop} {pins:List (Ac×Obj)} {s:Ae} {σ:St} {H:Hp} {x:Str} {u:Ab} {pos:Pos} {Q:Ab→Ae→Prop} (I:Inv X pins σ H s) (hg:Gl X x) (hm:X.mg x=some u) (h:Q u s)
  (hd:(x==("__debug__":Str))=false:=by decide):wpAny (model X.prog X.w) X.A (eval (.Name x pos) X.env) Q E s:=
 Calls.Name_function_global I.ok.kind hg (Calls.loadGlobal_global (by rw [I.ok.glob];exact I.mod.glob.keeps I.bk) hm h) hd
theorem vL {E:Ab→Ae→Prop} {pins:List (Ac×Obj)} {s:Ae} {σ:St} {H:Hp} {x:Str} {u:Ab} {pos:Pos} {Q:Ab→Ae→Prop} (I:Inv X pins σ H s) (hg:Gl X x) (hm:X.mg x=none) (hv:bootBuiltins x=some u) (h:Q u s)
  (hn:x≠"__name__":=by decide) (hd:(x==("__debug__":Str))=false:=by decide):wpAny (model X.prog X.w) X.A (eval (.Name x pos) X.env) Q E s:=by
 obtain ⟨mb,h1,h2⟩:=I.mod.blt;exact Calls.Name_function_global I.ok.kind hg (Calls.loadGlobal_builtin (by rw [I.ok.glob];exact I.mod.glob.keeps I.bk) hm (by rw [I.ok.blt];exact h1.keeps I.bk) ((h2 x hn).trans hv) h) hd
theorem Zh {x:Str} {v:V} {u:Ab} {pos:Pos} (hg:Gl X x) (hm:X.mg x=some u) (r:qz v u) (hd:(x==("__debug__":Str))=false:=by decide):PE X (.Name x pos) (tC v):=
 fun _ _ _ H _ I h=>wI I hg hm ⟨v,H,I,r,h⟩ hd
theorem qc6 {x:Str} {v:V} {u:Ab} {pos:Pos} (hg:Gl X x) (hm:X.mg x=none) (hv:bootBuiltins x=some u) (r:qz v u) (hn:x≠"__name__":=by decide) (hd:(x==("__debug__":Str))=false:=by decide):PE X (.Name x pos) (tC v):=
 fun _ _ _ H _ I h=>vL I hg hm hv ⟨v,H,I,r,h⟩ hn hd
variable {a b:Expr} {ta tb:TE} {pos:Pos}
def PC (X:Cx) (op:CmpOp) (a b:Expr) (t:TE):Prop:=
 ∀ (pins:List (Ac×Obj)) (s:Ae) (σ:St) (H:Hp) (Q:VK),Inv X pins σ H s→t σ H Q→
  wpAny (model X.prog X.w) X.A (eval a X.env) (fun v s₁=>wpAny (model X.prog X.w) X.A (eval b X.env) (fun u s₂=>wpAny (model X.prog X.w) X.A (compareOp op v u) (EP X pins σ Q) X.xe s₂) X.xe s₁) X.xe s
def tB (t:TE):TT:=fun σ H Q=>t σ H fun x H1=>∃ c,x= .bl c∧Q c H1
theorem Xv {op:CmpOp} {t:TE} (h:PC X op a b t) (h1:behindInMarks op b=false:=by first | exact nobehind _ O0 O0 | rfl):PT X (.Compare a [op] [b] pos) (tB t):=by
 intro pins s σ H Q I hw;refine wpAny_isTrue_Compare1 (thn (h pins s σ H _ I hw) fun v s1 h1=>thn h1 fun u s2 h2=>thn h2 fun c s3 ⟨x,H1,I1,r1,q1⟩=>?_) h1;obtain ⟨d,rfl,q⟩:=q1;cases r1;exact Ce ⟨H1,I1,q⟩
theorem zh {e:Expr} {t:TE} (h:PE X e t) (he:∀ whole,isTrue e X.env whole=(do let v ← whole;standAt e.pos;holding [v] (truthy v)):=by intro _;rfl):PT X e (tB t):=by
 intro pins s σ H Q I hw;refine isTrue_plain (thn (h pins s σ H _ I hw) fun v s1 ⟨x,H1,I1,r1,q1⟩=>?_) (he _);obtain ⟨d,rfl,q⟩:=q1;cases r1;exact Ce ⟨H1,I1,q⟩
variable {tA tB':TT} {rest:List Expr}
def tAnd (t u:TT):TT:=fun σ H Q=>t σ H fun c H1=>if c=true then u σ H1 Q else Q false H1
def tOr (t u:TT):TT:=fun σ H Q=>t σ H fun c H1=>if c=true then Q true H1 else u σ H1 Q
def tNot (t:TT):TT:=fun σ H Q=>t σ H fun c H1=>Q (!c) H1
theorem vS (ha:PT X a tA):PW X (.BoolOp .And [a] pos) tA:=by
 intro wh pins s σ H Q I h;refine isTrue_and (thn (ha pins s σ H Q I h) fun c s1 e=>?_);cases c with
 | true=>exact isTrue_and_nil e
 | false=>exact e
theorem Jf (ha:PT X a tA):PW X (.BoolOp .Or [a] pos) tA:=by
 intro wh pins s σ H Q I h;refine isTrue_or (thn (ha pins s σ H Q I h) fun c s1 e=>?_);cases c with
 | false=>exact isTrue_or_nil e
 | true=>exact e
theorem VS (ha:PT X a tA) (hb:PW X (.BoolOp .And (b::rest) pos) tB'):PW X (.BoolOp .And (a::b::rest) pos) (tAnd tA tB'):=by
 intro wh pins s σ H Q I h;refine isTrue_and (thn (ha pins s σ H _ I h) fun c s1 ⟨H1,I1,q1⟩=>?_);cases c with
 | true=>exact hb wh pins s1 σ H1 Q I1 q1
 | false=>exact ⟨H1,I1,q1⟩
theorem JQ (ha:PT X a tA) (hb:PW X (.BoolOp .Or (b::rest) pos) tB'):PW X (.BoolOp .Or (a::b::rest) pos) (tOr tA tB'):=by
 intro wh pins s σ H Q I h;refine isTrue_or (thn (ha pins s σ H _ I h) fun c s1 ⟨H1,I1,q1⟩=>?_);cases c with
 | true=>exact ⟨H1,I1,q1⟩
 | false=>exact hb wh pins s1 σ H1 Q I1 q1
theorem zo (ha:PT X a tA):PT X (.UnaryOp .Not a pos) (tNot tA):=by
 intro pins s σ H Q I h;exact isTrue_not (ha pins s σ H (fun c H1=>Q (!c) H1) I h)
def X5 (ta tb:TE):TE:=fun σ H Q=>ta σ H fun x H1=>∃ c,x= .bl c∧if c=true then tb σ H1 Q else Q (.bl false) H1
def qfe (ta tb:TE):TE:=fun σ H Q=>ta σ H fun x H1=>∃ c,x= .bl c∧if c=true then Q (.bl true) H1 else tb σ H1 Q
def qep (ta:TE):TE:=fun σ H Q=>ta σ H fun x H1=>∃ c,x= .bl c∧Q (.bl (!c)) H1
theorem zp {op} {t:TE} (h:PE X a t):PE X (.BoolOp op [a] pos) t:=fun pins s σ H Q I hw=>BoolOp_one (h pins s σ H Q I hw)
theorem zC (ha:PE X a ta) (hb:PE X (.BoolOp .And (b::rest) pos) tb):PE X (.BoolOp .And (a::b::rest) pos) (X5 ta tb):=by
 intro pins s σ H Q I h;refine BoolOp_and (thn (ha pins s σ H _ I h) fun v s1 ⟨x,H1,I1,r1,q1⟩=>?_);obtain ⟨c,rfl,q1⟩:=q1;cases r1;refine Ce ?_;cases c with
 | true=>exact hb pins s1 σ H1 Q I1 q1
 | false=>exact ⟨.bl false,H1,I1,rfl,q1⟩
theorem Zg (ha:PE X a ta) (hb:PE X (.BoolOp .Or (b::rest) pos) tb):PE X (.BoolOp .Or (a::b::rest) pos) (qfe ta tb):=by
 intro pins s σ H Q I h;refine BoolOp_or (thn (ha pins s σ H _ I h) fun v s1 ⟨x,H1,I1,r1,q1⟩=>?_);obtain ⟨c,rfl,q1⟩:=q1;cases r1;refine Ce ?_;cases c with
 | false=>exact hb pins s1 σ H1 Q I1 q1
 | true=>exact ⟨.bl true,H1,I1,rfl,q1⟩
theorem qas (ha:PE X a ta):PE X (.UnaryOp .Not a pos) (qep ta):=by
 intro pins s σ H Q I h;refine UnaryOp_ (thn (ha pins s σ H _ I h) fun v s1 ⟨x,H1,I1,r1,q1⟩=>?_);obtain ⟨c,rfl,q1⟩:=q1;cases r1;exact not_of (Ce ⟨.bl (!c),H1,I1,rfl,q1⟩)
def tIf (t:TT) (ta tb:TE):TE:=fun σ H Q=>t σ H fun c H1=>if c=true then ta σ H1 Q else tb σ H1 Q
theorem Wb {c:Expr} (hc:PT X c tA) (ha:PE X a ta) (hb:PE X b tb):PE X (.IfExp c a b pos) (tIf tA ta tb):=by
 intro pins s σ H Q I h;refine wpAny_IfExp (thn (hc pins s σ H _ I h) fun d s1 ⟨H1,I1,q1⟩=>?_);cases d with
 | true=>exact ha pins s1 σ H1 Q I1 q1
 | false=>exact hb pins s1 σ H1 Q I1 q1
end
def SqL (K:Frag) (H:Hp) (a:Ac) (xs:List V):Prop:=
 Rd H a (.lst xs)∨
  ∃ (o:Obj) (its:Array Ab) (n:Nat),K.lookup a=some o∧o.cls= .type "list"∧o.dict=none∧o.data= .seq its n∧its.size≤Af∧qK xs its.toList
def SqT (K:Frag) (H:Hp) (a:Ac) (xs:List V):Prop:=
 Rd H a (.tup xs)∨
  ∃ (o:Obj) (its:Array Ab) (n:Nat),K.lookup a=some o∧o.cls= .type "tuple"∧o.data= .seq its n∧its.size≤Af∧qK xs its.toList
def absV:Ab→Option V
 | .none=>some .non
 | .bool b=>some (.bl b)
 | .int i _=>some (.int i)
 | .str x _=>some (.str x)
 | .bytes b _=>some (.byt b)
 | .float b _=>some (.flt b)
 | .ref a=>some (.ref a)
 | .type n=>some (.ty n)
 | _=>none
theorem qz.abs {x:V} {u:Ab} (r:qz x u):absV u=some x:=by
 cases x with
 | non=>cases r;rfl
 | bl _=>cases r;rfl
 | int _=>obtain ⟨t,rfl⟩:=r;rfl
 | str _=>obtain ⟨t,rfl⟩:=r;rfl
 | byt _=>obtain ⟨t,rfl⟩:=r;rfl
 | flt _=>obtain ⟨t,rfl⟩:=r;rfl
 | ref _=>cases r;rfl
 | ty _=>cases r;rfl
theorem qz.inj {x y:V} {u:Ab} (r:qz x u) (q:qz y u):x=y:=Bh (r.abs.symm.trans q.abs)
theorem qK.inj:∀ {xs ys:List V} {us:List Ab},qK xs us→qK ys us→xs=ys
 | _,_,_,.nil,.nil=>rfl
 | _,_,_,.cons r t,.cons r' t'=>by rw [r.inj r',qK.inj t t']
section
variable {X:Cx} {pins:List (Ac×Obj)} {σ:St} {H:Hp} {s:Ae} {a:Ac} {xs ys:List V}
theorem SqL.of {K:Frag} (h:H a=some (.lst xs)):SqL K H a xs:= .inl (.inl h)
theorem SqT.of {K:Frag} (h:H a=some (.tup xs)):SqT K H a xs:= .inl (.inl h)
theorem Inv.list (I:Inv X pins σ H s) (h:SqL X.K H a xs):∃ its:List Ab,qK xs its∧PlainL s.heap a its.toArray∧xs.length≤Af:=by
 rcases h with h | ⟨o,its,n,hk,hc,hd,hs,hz,r⟩
 ·obtain ⟨z,its,n,r,e⟩:=h.ok I.hok;exact ⟨its,r,⟨_,n,e,rfl,rfl,rfl⟩,z⟩
 ·refine ⟨its.toList,r,⟨o,n,I.kIn a o hk,hc,hd,by simpa using hs⟩,?_⟩
  have e:=r.length;simp only [Ee] at e;omega
theorem Inv.tuple (I:Inv X pins σ H s) (h:SqT X.K H a xs):∃ its:List Ab,qK xs its∧IsTup s.heap a its.toArray∧xs.length≤Af:=by
 rcases h with h | ⟨o,its,n,hk,hc,hs,hz,r⟩
 ·obtain ⟨z,its,r,p⟩:=h.ok I.hok;exact ⟨its,r,p,z⟩
 ·refine ⟨its.toList,r,⟨o,I.kIn a o hk,hc,n,by simpa using hs⟩,?_⟩
  have e:=r.length;simp only [Ee] at e;omega
theorem Inv.list_inj (I:Inv X pins σ H s) (h:SqL X.K H a xs) (h':SqL X.K H a ys):xs=ys:=by
 obtain ⟨its,r,⟨o,n,e,_,_,d⟩,_⟩:=I.list h;obtain ⟨its',r',⟨o',n',e',_,_,d'⟩,_⟩:=I.list h';rw [e] at e';cases e';rw [d] at d';injection d' with d1 _
 have:its=its':=by simpa using congrArg Array.toList d1
 subst this;exact r.inj r'
theorem Inv.tuple_inj (I:Inv X pins σ H s) (h:SqT X.K H a xs) (h':SqT X.K H a ys):xs=ys:=by
 obtain ⟨its,r,⟨o,e,_,n,d⟩,_⟩:=I.tuple h;obtain ⟨its',r',⟨o',e',_,n',d'⟩,_⟩:=I.tuple h';rw [e] at e';cases e';rw [d] at d';injection d' with d1 _
 have:its=its':=by simpa using congrArg Array.toList d1
 subst this;exact r.inj r'
end
abbrev Cx.wish (X:Cx) (E:Ab→Ae→Prop):Cx:={X with xe:=E}
abbrev Cx.nox (X:Cx):Cx:=X.wish fun _ _=>False
theorem Cx.Ok.wish {X:Cx} (ok:X.Ok) (E:Ab→Ae→Prop):(X.wish E).Ok:=
 ⟨ok.mod,ok.kind,ok.glob,ok.blt,ok.above,ok.inj,ok.has,ok.cab,ok.hd,ok.frames,ok.stk,ok.exf,ok.bs,ok.bsz,ok.noex,ok.exfs,ok.funs,ok.frf⟩
theorem Cx.Ok.unwish {X:Cx} {E:Ab→Ae→Prop} (ok:(X.wish E).Ok):X.Ok:=
 ⟨ok.mod,ok.kind,ok.glob,ok.blt,ok.above,ok.inj,ok.has,ok.cab,ok.hd,ok.frames,ok.stk,ok.exf,ok.bs,ok.bsz,ok.noex,ok.exfs,ok.funs,ok.frf⟩
section
variable {X:Cx} {pins:List (Ac×Obj)} {σ:St} {H:Hp} {s:Ae} {E:Ab→Ae→Prop}
theorem Inv.wish (I:Inv X pins σ H s) (E:Ab→Ae→Prop):Inv (X.wish E) pins σ H s:=⟨I.ok.wish E,I.os,I.bare,I.base,I.loc,I.cell,I.free,I.freeC,I.pin,I.hok,I.len⟩
theorem Inv.unwish (I:Inv (X.wish E) pins σ H s):Inv X pins σ H s:=⟨I.ok.unwish,I.os,I.bare,I.base,I.loc,I.cell,I.free,I.freeC,I.pin,I.hok,I.len⟩
theorem SP.unwish {D:Ends} {f:Flow} {s':Ae} (h:SP (X.wish E) pins D f s'):SP X pins D f s':=by
 cases f with
 | next=>obtain ⟨σ',H',I,q⟩:=h;exact ⟨σ',H',I.unwish,q⟩
 | brk=>obtain ⟨σ',H',I,q⟩:=h;exact ⟨σ',H',I.unwish,q⟩
 | cont=>obtain ⟨σ',H',I,q⟩:=h;exact ⟨σ',H',I.unwish,q⟩
 | ret u=>obtain ⟨v,σ',H',I,r,q⟩:=h;exact ⟨v,σ',H',I.unwish,r,q⟩
theorem PSs.nox {st:List Stmt} {t:TS} (h:PSs X.nox st t):PSs X st t:=fun pins s σ H D I hw=>
 Dq (h pins s σ H D (I.wish _) hw) (fun _ _ q=>q.unwish) fun _ _ z=>False.elim z
end
section
variable {X:Cx} {st:Stmt} {rest:List Stmt} {t u:TS} {e:Expr} {te:TE} {pos:Pos}
def qeq:TS:=fun D σ H=>D.nx σ H
def Jn (t u:TS):TS:=fun D σ H=>t {D with nx:=u D} σ H
theorem qv:PSs X [] qeq:=fun _ _ σ H _ I h=>wpAny_execs_nil ⟨σ,H,I,h⟩
theorem qf (h1:PS X st t) (h2:PSs X rest u):PSs X (st::rest) (Jn t u):=by
 intro pins s σ H D I h;refine wpAny_execs_cons (thn (h1 pins s σ H {D with nx:=u D} I h) fun f s1 q=>?_)
 cases f with
 | next=>
  obtain ⟨σ',H',I',q⟩:=q;exact h2 pins s1 σ' H' D I' q
 | ret v=>exact q
 | brk=>exact q
 | cont=>exact q
theorem qg (h1:PS X st t):PSs X [st] t:=by
 intro pins s σ H D I h;refine wpAny_execs_cons (thn (h1 pins s σ H D I h) fun f s1 q=>?_);cases f with
 | next=>exact wpAny_execs_nil q
 | ret v=>exact q
 | brk=>exact q
 | cont=>exact q
theorem Inv.quiet {pins:List (Ac×Obj)} {σ:St} {H:Hp} {s:Ae} (I:Inv X pins σ H s):interactive X.env=false:=by simp [interactive,I.ok.kind]
def qes (te:TE):TS:=fun D σ H=>te σ H fun _ H1=>D.nx σ H1
theorem je (he:PE X e te) (hs:swapsWith e none pos.line X.env=pure false:=by rfl):PS X (.Expr e pos) (qes te):=by
 intro pins s σ H D I h;exact wpAny_Expr_any (thn (he pins s σ H _ I h) fun v s1 ⟨x,H1,I1,r1,q1⟩=>⟨σ,H1,I1,q1⟩) I.quiet hs
def Xk (te:TE):TS:=fun D σ H=>te σ H D.rt
theorem qm (he:PE X e te):PS X (.Return (some e) pos) (Xk te):=by
 intro pins s σ H D I h;exact wpAny_Return_some (thn (he pins s σ H _ I h) fun v s1 ⟨x,H1,I1,r1,q1⟩=>⟨x,σ,H1,I1,r1,q1⟩)
def qff (c:TT) (t u:TS):TS:=fun D σ H=>c σ H fun b H1=>if b=true then t D σ H1 else u D σ H1
theorem qF {c:Expr} {a b:List Stmt} {tc:TT} (hc:PT X c tc) (ha:PSs X a t) (hb:PSs X b u):PS X (.If c a b pos) (qff tc t u):=by
 intro pins s σ H D I h;refine wpAny_If (thn (hc pins s σ H _ I h) fun d s1 ⟨H1,I1,q1⟩=>?_);cases d with
 | true=>exact ha pins s1 σ H1 D I1 q1
 | false=>exact hb pins s1 σ H1 D I1 q1
end
abbrev TG:=V→St→Hp→(St→Hp→Prop)→Prop
abbrev TGs:=List V→St→Hp→(St→Hp→Prop)→Prop
def PG (X:Cx) (target:Expr) (t:TG):Prop:=
 ∀ (pins:List (Ac×Obj)) (s:Ae) (σ:St) (H:Hp) (v:V) (u:Ab) (Q:St→Hp→Prop),Inv X pins σ H s→qz v u→t v σ H Q→
  wpAny (model X.prog X.w) X.A (assign target X.env u) (fun _ s'=>∃ σ' H',Inv X pins σ' H' s'∧Q σ' H') X.xe s
def PGs (X:Cx) (ts:List Expr) (t:TGs):Prop:=
 ∀ (pins:List (Ac×Obj)) (s:Ae) (σ:St) (H:Hp) (vs:List V) (us:List Ab) (Q:St→Hp→Prop),Inv X pins σ H s→qK vs us→t vs σ H Q→
  wpAny (model X.prog X.w) X.A (assignInOrder ((assignEach ts X.env).map (·.2)) us) (fun _ s'=>∃ σ' H',Inv X pins σ' H' s'∧Q σ' H') X.xe s
abbrev qhc:=V→V→V→Hp→(Hp→Prop)→Prop
def qja (X:Cx) (t:qhc):Prop:=
 ∀ (pins:List (Ac×Obj)) (s:Ae) (σ:St) (H:Hp) (o i v:V) (ov iv u:Ab) (Q:Hp→Prop),Inv X pins σ H s→qz o ov→qz i iv→qz v u→t o i v H Q→
  wpAny (model X.prog X.w) X.A (setItem ov iv u) (fun _ s'=>∃ H',Inv X pins σ H' s'∧Q H') X.xe s
abbrev TIp:=V→V→Hp→VK→Prop
def PIp (X:Cx) (op:Operator) (t:TIp):Prop:=
 ∀ (pins:List (Ac×Obj)) (s:Ae) (σ:St) (H:Hp) (x y:V) (v u:Ab) (Q:VK),Inv X pins σ H s→qz x v→qz y u→t x y H Q→
  wpAny (model X.prog X.w) X.A (inplaceOp op v u) (EP X pins σ Q) X.xe s
section
variable {X:Cx} {pos:Pos}
def qC (i:Nat):TG:=fun v σ H Q=>Q (σ.set i (some v)) H
theorem qx {i:Nat} {x:Str} (hN:X.N.Nodup) (hi:X.N[i]?=some x) (hx:Loc X.env.scope x) (hf:X.fn x=true∨X.env.scope.names.lookup x=some .local:=by first | exact .inl rfl | exact .inr rfl | assumption):PG X (.Name x pos) (qC i):=by
 intro pins s σ H v u Q I r h;exact wpAny_assign_Name (wQ I hN hi hx r (fun s' I'=>⟨_,H,I',h⟩) hf)
def XT:TGs:=fun vs σ H Q=>vs=[]∧Q σ H
def JW (t:TG) (u:TGs):TGs:=fun vs σ H Q=>∃ v r,vs=v::r∧t v σ H fun σ' H'=>u r σ' H' Q
theorem jr:PGs X [] XT:=by
 intro pins s σ H vs us Q I r h;obtain ⟨e,h⟩:=h;subst e;cases r;exact assignInOrder_nil ⟨σ,H,I,h⟩
theorem qM {e:Expr} {es:List Expr} {t:TG} {u:TGs} (h1:PG X e t) (h2:PGs X es u)
  (hs:(assignEach (e::es) X.env).map (·.2)=assign e X.env::(assignEach es X.env).map (·.2):=by rfl):PGs X (e::es) (JW t u):=by
 intro pins s σ H vs us Q I r h;obtain ⟨v,vr,e1,h⟩:=h;subst e1;cases r with
 | cons r rr=>
  rw [hs];refine assignInOrder_cons (thn (h1 pins s σ H _ _ _ I r h) fun _ s1 ⟨σ1,H1,I1,q1⟩=>?_);exact h2 pins s1 σ1 H1 _ _ Q I1 rr q1
def Y3 (K:Frag) (n:Nat) (t:TGs):TG:=fun v σ H Q=>∃ a xs,v= .ref a∧SqT K H a xs∧xs.length=n∧t xs σ H Q
theorem qfv {es:List Expr} {k:Nat} {t:TGs} {n:Nat} (hc:X.calm=true) (h:PGs X es t)
  (hn:(assignEach es X.env).length=n:=by rfl) (hst:(assignEach es X.env).findIdx? (·.1)=none:=by rfl):PG X (.Tuple es k pos) (Y3 X.K n t):=by
 intro pins s σ H v u Q I r hw;obtain ⟨a,xs,e1,hq,hl,hw⟩:=hw;subst e1;cases r;obtain ⟨its,rv,ht,hz⟩:=I.tuple hq;refine assign_Tuple_tuple (I.ok.hd hc) ht (by simp [hn,← hl,rv.length]) hst fun h' hx=>?_
 have I1:Inv X pins σ H {s with heap:=h'}:=I.kept (t':=s.toks) fun b o e=>hx b o (B1 (A9 e)) e
 exact h pins _ σ H xs _ Q I1 (by simpa using rv) hw
def gSub (to ti:TE) (t:qhc):TG:=fun v σ H Q=>to σ H fun o H1=>ti σ H1 fun i H2=>t o i v H2 fun H3=>Q σ H3
theorem qar {o i:Expr} {to ti:TE} {t:qhc} (ho:PE X o to) (hi:PE X i ti) (hs:qja X t)
  (ha:∀ v,assign (.Subscript o i pos) X.env v=(do
   let ov ← holding [v] (eval o X.env)
   let iv ← holding [v,ov] (eval i X.env)
   standAt pos
   holding [v,ov,iv] (setItem ov iv v)
   release [v,ov,iv] []):=by intro _;rfl):PG X (.Subscript o i pos) (gSub to ti t):=by
 intro pins s σ H v u Q I r h;rw [ha];refine Ai (Es (thn (ho pins s σ H _ I h) fun ov s1 ⟨x,H1,I1,r1,q1⟩=>?_));refine Ai (Es (thn (hi pins s1 σ H1 _ I1 q1) fun iv s2 ⟨y,H2,I2,r2,q2⟩=>?_));refine Ai (wpAny_standAt (Ai (Es (thn (hs pins s2 σ H2 x y v ov iv u _ I2 r1 r2 r q2) fun _ s3 ⟨H3,I3,q3⟩=>?_))));exact wpAny_release ⟨σ,H3,I3,q3⟩
def VM (te:TE) (g:TG):TS:=fun D σ H=>te σ H fun x H1=>g x σ H1 D.nx
theorem wY {tg e:Expr} {te:TE} {g:TG} (he:PE X e te) (hg:PG X tg g) (hs:swapsWithSole [tg] e pos.line X.env=pure false:=by rfl) (hw:swappedStores [tg] e X.env=pure none:=by rfl)
  (h1:(assignEach [tg] X.env).map (·.2)=[assign tg X.env]:=by rfl):PS X (.Assign [tg] e pos) (VM te g):=by
 intro pins s σ H D I h;refine wpAny_Assign_stores (thn (he pins s σ H _ I h) fun v s1 ⟨x,H1,I1,r1,q1⟩=>?_) hs hw;rw [h1];exact thn (hg pins s1 σ H1 x v _ I1 r1 q1) fun _ s2 q=>q
theorem qft {i:Nat} {x:Str} {e:Expr} {te:TE} {pos':Pos} (hN:X.N.Nodup) (hi:X.N[i]?=some x) (hx:Loc X.env.scope x) (he:PE X e te) (hs:swapsWith e (some (.Name x pos')) pos.line X.env=pure false:=by rfl) (hf:X.fn x=true∨X.env.scope.names.lookup x=some .local:=by first | exact .inl rfl | exact .inr rfl | assumption):
  PS X (.Assign [.Name x pos'] e pos) (VM te (qC i)):=by
 intro pins s σ H D I h;refine wpAny_Assign_Name (thn (he pins s σ H _ I h) fun v s1 ⟨y,H1,I1,r1,q1⟩=>?_) hs;exact wQ I1 hN hi hx r1 (fun s2 I2=>⟨_,H1,I2,q1⟩) hf
def tAug (i:Nat) (te:TE) (ti:TIp):TS:=fun D σ H=>∃ x,σ[i]?=some (some x)∧te σ H fun y H1=>ti x y H1 fun z H2=>D.nx (σ.set i (some z)) H2
theorem qan {i:Nat} {x:Str} {e:Expr} {te:TE} {op:Operator} {ti:TIp} {pos':Pos} (hN:X.N.Nodup) (hi:X.N[i]?=some x) (hx:Loc X.env.scope x) (he:PE X e te) (ho:PIp X op ti) (hf:X.fn x=true∨X.env.scope.names.lookup x=some .local:=by first | exact .inl rfl | exact .inr rfl | assumption):
  PS X (.AugAssign (.Name x pos') op e pos) (tAug i te ti):=by
 intro pins s σ H D I h;obtain ⟨v,e1,h⟩:=h;obtain ⟨m,hn,hl⟩:=I.loc;have vis:Vis X.env.scope x:=by rcases hx with k | k;exact .inl k;exact .inr (.inl k)
 obtain ⟨u,r,l⟩:=hl i x v hi e1 vis;refine wpAny_AugAssign_Name ?_;have go:wpAny (model X.prog X.w) X.A (eval e X.env) (fun w s₂=>wpAny (model X.prog X.w) X.A (inplaceOp op u w) (fun r s₃=>wpAny (model X.prog X.w) X.A (storeName X.env x r) (fun _=>SP X pins D .next) X.xe s₃) X.xe s₂) X.xe s:=by
  refine thn (he pins s σ H _ I h) fun w s1 ⟨y,H1,I1,r1,q1⟩=>?_;refine thn (ho pins s1 σ H1 v y u w _ I1 r r1 q1) fun z s2 ⟨zv,H2,I2,r2,q2⟩=>?_;exact wQ I2 hN hi hx r2 (fun s3 I3=>⟨_,H2,I3,q2⟩) hf
 rcases l with ⟨hk,hm⟩ | ⟨hk,c,hc,hcell⟩
 ·exact wpAny_loadName_local I.ok.kind hk hn hm go
 ·rcases hk with hk | hk
  ·exact wpAny_loadName_cell I.ok.kind hk hc hcell go
  ·rcases hx with k | k
   ·have:X.env.scope.names.lookup x=some .free:=hk;rw [k] at this;cases this
   ·have:X.env.scope.names.lookup x=some .free:=hk;rw [k] at this;cases this
def ipI (f:Int→Int→Int):TIp:=fun x y H Q=>∃ i j,x= .int i∧y= .int j∧Q (.int (f i j)) H
end
section
variable {X:Cx} {pos:Pos}
def qfd (c:TT) (tb:TS):TS:=fun D σ H=>∃ W:Nat→St→Hp→Prop,(∃ m,W m σ H)∧∀ m σ H,W m σ H→
 c σ H fun b H1=>if b=true then ∃ N:St→Hp→Prop,(∀ σ' H',N σ' H'→∃ m',m'<m∧W m' σ' H')∧tb {D with nx:=N,ct:=N,bk:=D.nx} σ H1 else D.nx σ H1
theorem YE {c:Expr} {body:List Stmt} {tc:TT} {tb:TS} (hp:PassesOwn (model X.prog X.w) X.A X.env X.xe) (hc:PT X c tc) (hb:PSs X body tb):PS X (.While c body [] pos) (qfd tc tb):=by
 intro pins s σ H D I h;obtain ⟨W,⟨m0,w0⟩,turn⟩:=h;refine wpAny_While (codeAny_whileLoop (fun n s'=>∃ σ' H',Inv X pins σ' H' s'∧W n σ' H') ?_ m0 ⟨σ,H,I,w0⟩);rintro n s1 ⟨σ1,H1,I1,w1⟩;refine De hp (thn (hc pins s1 σ1 H1 _ I1 (turn n σ1 H1 w1)) fun b s2 ⟨H2,I2,q2⟩=>?_);cases b with
 | true=>
  obtain ⟨N,hN,q2⟩:=q2;rw [if_pos rfl];refine De hp (thn (hb pins s2 σ1 H2 _ I2 q2) fun f s3 q3=>?_);cases f with
  | next=>
   obtain ⟨σ3,H3,I3,n3⟩:=q3;obtain ⟨m',hm,w3⟩:=hN σ3 H3 n3;exact ⟨m',hm,σ3,H3,I3,w3⟩
  | cont=>
   obtain ⟨σ3,H3,I3,n3⟩:=q3;obtain ⟨m',hm,w3⟩:=hN σ3 H3 n3;exact ⟨m',hm,σ3,H3,I3,w3⟩
  | brk=>exact q3
  | ret v=>exact q3
 | false=>
  rw [if_neg Ak];exact wpAny_execs_nil ⟨σ1,H2,I2,q2⟩
end
structure It where
 go:Nat→Hp→Prop
 yld:Nat→Hp→V→Hp→Prop
 stop:Nat→Hp→Prop
def VI (X:Cx) (pins:List (Ac×Obj)) (H:Hp) (b:Ac):Prop:=
 H b=none∧b≠X.env.locals∧b∉X.fs∧(b∈X.ex∨X.s₀.heap.objs.size≤b)∧(∀ x c,X.env.cells.lookup x=some c→c≠b)∧∀ p∈X.pn++pins,p.1≠b
theorem Inv.fpOk {X:Cx} {pins:List (Ac×Obj)} {σ:St} {H H':Hp} {s:Ae} {b:Ac} (I:Inv X pins σ H s) (hb:s.heap.objs.size≤b) (hn:H' b=none):VI X pins H' b:=by
 refine ⟨hn,Cy (Bk I.lt hb),I.nofs hb,.inr (As I.sz hb),fun x c e z=>?_,fun p hp z=>?_⟩
 ·obtain ⟨v,q⟩:=I.cell x c e;exact absurd (Bk q.lt (by rw [z];exact hb)) (Df _)
 ·exact absurd (Bk (A9 (I.pin p hp).1) (by rw [z];exact hb)) (Df _)
structure Turn (P:Program) (w:World) (K:Frag) (tg:Expr) (J:It) (fp:List Ac) (it:Ac) (tn:Nat→Heap→Prop):Prop where
 mem:it∈fp
 obj:∀ i h,tn i h→∀ b∈fp,∃ o,h.get? b=some o∧∀ v,o.data≠ .cell v
 keep:∀ i h h',tn i h→(∀ b∈fp,∀ o,h.get? b=some o→h'.get? b=some o)→tn i h'
 item:∀ (X:Cx),X.prog=P→X.w=w→X.K=K→X.calm=true→∀ (i:Nat) (pins:List (Ac×Obj)) (s:Ae) (σ:St) (H:Hp) (E:Ab→Ae→Prop),Inv X pins σ H s→(∀ b∈fp,VI X pins H b)→tn i s.heap→J.go i H→
  wpAny (model P w) X.A (pyNext (.ref it)) (fun r s1=>∃ u,r=some u∧
   wpAny (model P w) X.A (letOwnedTupleGo tg (.ref it) u) (fun _ s2=>∃ x H',Inv X pins σ H' s2∧qz x u∧J.yld i H x H'∧tn (i+1) s2.heap∧∀ b∈fp,H' b=none) E s1) E s
 done:∀ (X:Cx),X.prog=P→X.w=w→X.K=K→X.calm=true→∀ (i:Nat) (pins:List (Ac×Obj)) (s:Ae) (σ:St) (H:Hp) (E:Ab→Ae→Prop),Inv X pins σ H s→(∀ b∈fp,VI X pins H b)→tn i s.heap→J.stop i H→
  wpAny (model P w) X.A (pyNext (.ref it)) (fun r s1=>r=none∧Inv X pins σ H s1) E s
 self:∀ (A:Around) (i:Nat) (s:Ae) (Q:Ab→Ae→Prop) (E:Ab→Ae→Prop),tn i s.heap→Q (.ref it) s→wpAny (model P w) A (pyIter (.ref it)) Q E s
abbrev TI:=St→Hp→(It→Hp→Prop)→Prop
def PIE (X:Cx) (pins:List (Ac×Obj)) (σ:St) (tg:Expr) (R:It→Hp→Prop) (itv:Ab) (s2:Ae):Prop:=
 ∃ (it:Ac) (fp:List Ac) (tn:Nat→Heap→Prop) (J:It) (H':Hp),itv= .ref it∧Inv X pins σ H' s2∧Turn X.prog X.w X.K tg J fp it tn∧tn 0 s2.heap∧(∀ b∈fp,VI X pins H' b)∧R J H'
def PI (X:Cx) (tg iter:Expr) (wi:TI):Prop:=
 ∀ (pins:List (Ac×Obj)) (s:Ae) (σ:St) (H:Hp) (R:It→Hp→Prop),Inv X pins σ H s→wi σ H R→
  wpAny (model X.prog X.w) X.A (eval iter X.env) (fun v s1=>wpAny (model X.prog X.w) X.A (pyIter v) (PIE X pins σ tg R) X.xe s1) X.xe s
theorem Y2 {M:Model} {A:Around} {E:Ab→Ae→Prop} {s:Ae} {tg:Expr} {it:Ac} {u:Ab} {o:Obj} {n:String} {vs:Array Ab} {Q:Unit→Ae→Prop} (ho:s.heap.get? it=some o) (hc:o.cls= .type n) (hd:o.data= .fields vs)
  (hn:["enumerate","zip","dict_itemiterator","dict_reverseitemiterator","odict_iterator","itertools.zip_longest","itertools.pairwise"].contains n=false) (hQ:Q () s):wpAny M A (letOwnedTupleGo tg (.ref it) u) Q E s:=by
 unfold letOwnedTupleGo;cases tg <;> first
  | exact A1 hQ
  | (cases u <;> first
    | exact A1 hQ
    | (refine Ai (wpAny_load ho ?_)
       rw [hc,hd];show wpAny M A (if (["enumerate","zip","dict_itemiterator","dict_reverseitemiterator","odict_iterator","itertools.zip_longest","itertools.pairwise"].contains n&&vs[0]?==some (rawInt _))=true then _ else _) Q E s
       rw [if_neg (by intro h;rw [hn,Ba] at h;cases h)]
       exact A1 hQ))
def Itl (K:Frag) (a:Ac):It:=
 ⟨fun i H=>∃ xs x,SqL K H a xs∧xs[i]?=some x,fun i H x H'=>H'=H∧∀ xs,SqL K H a xs→xs[i]?=some x,fun i H=>∃ xs,SqL K H a xs∧xs.length≤i⟩
def Itt (K:Frag) (a:Ac):It:=
 ⟨fun i H=>∃ xs x,SqT K H a xs∧xs[i]?=some x,fun i H x H'=>H'=H∧∀ xs,SqT K H a xs→xs[i]?=some x,fun i H=>∃ xs,SqT K H a xs∧xs.length≤i⟩
def Itr (lo:Int) (n:Nat):It:=⟨fun i _=>i<n,fun i H x H'=>H'=H∧x= .int (lo+i),fun i _=>n≤i⟩
theorem ZS {P:Program} {w:World} {K:Frag} {tg:Expr} (a it:Ac):Turn P w K tg (Itl K a) [it] it (fun i h=>h.IsListIter it a i) where
 mem:=by simp
 obj:=fun i h st b hb=>by
  have e:b=it:=by simpa using hb
  subst e;obtain ⟨o,e,c,d⟩:=st;exact ⟨o,e,fun v z=>by rw [d] at z;cases z⟩
 keep:=fun i h h' st k=>st.at fun o e=>k it (by simp) o e
 item:=by
  intro X hP hw hK hc i pins s σ H E I hf st hg;subst hP hw hK;obtain ⟨xs,x,hq,hx⟩:=hg;obtain ⟨its,rv,p,hz⟩:=I.list hq;obtain ⟨u,hu,ru⟩:=rv.get hx;obtain ⟨f0,f1,f2,f3,f4,f5⟩:=hf it (by simp)
  refine wpAny_pyNext_list_item st p.isList (x:=u) (by simpa using hu) fun h' st' sb=>?_
  have I1:Inv X pins σ H {s with heap:=h'}:=I.turned (t':=s.toks) (fun b o hb e=>(sb.2 b hb).trans e) f0 f1 f3 f4 f5
  obtain ⟨o,e,c,d⟩:=id st';exact ⟨u,rfl,Y2 (s:={s with heap:=h'}) e c d O0 ⟨x,H,I1,ru,⟨rfl,fun ys hy=>by rw [I.list_inj hy hq];exact hx⟩,st',fun b hb=>(hf b hb).1⟩⟩
 done:=by
  intro X hP hw hK hc i pins s σ H E I hf st hg;subst hP hw hK;obtain ⟨xs,hq,hx⟩:=hg;obtain ⟨its,rv,p,hz⟩:=I.list hq;obtain ⟨f0,f1,f2,f3,f4,f5⟩:=hf it (by simp)
  have hl:=rv.length;exact wpAny_pyNext_list_end (I.ok.hd hc) st p.isList (by simp;omega) fun h' eb=>⟨rfl,I.turned (t':=s.toks) (fun b o hb e=>eb b o hb e) f0 f1 f3 f4 f5⟩
 self:=fun _ _ _ _ _ st h=>wpAny_pyIter_listiter st h
theorem Xh {P:Program} {w:World} {K:Frag} {tg:Expr} (a it:Ac):Turn P w K tg (Itt K a) [it] it (fun i h=>h.IsTupleIter it a i) where
 mem:=by simp
 obj:=fun i h st b hb=>by
  have e:b=it:=by simpa using hb
  subst e;obtain ⟨o,e,c,d⟩:=st;exact ⟨o,e,fun v z=>by rw [d] at z;cases z⟩
 keep:=fun i h h' st k=>st.at fun o e=>k it (by simp) o e
 item:=by
  intro X hP hw hK hc i pins s σ H E I hf st hg;subst hP hw hK;obtain ⟨xs,x,hq,hx⟩:=hg;obtain ⟨its,rv,p,hz⟩:=I.tuple hq;obtain ⟨u,hu,ru⟩:=rv.get hx;obtain ⟨f0,f1,f2,f3,f4,f5⟩:=hf it (by simp)
  refine wpAny_pyNext_tuple_item st (show s.heap.IsTuple a its.toArray from p) (x:=u) (by simpa using hu) fun h' st' sb=>?_
  have I1:Inv X pins σ H {s with heap:=h'}:=I.turned (t':=s.toks) (fun b o hb e=>(sb.2 b hb).trans e) f0 f1 f3 f4 f5
  obtain ⟨o,e,c,d⟩:=id st';exact ⟨u,rfl,Y2 (s:={s with heap:=h'}) e c d O0 ⟨x,H,I1,ru,⟨rfl,fun ys hy=>by rw [I.tuple_inj hy hq];exact hx⟩,st',fun b hb=>(hf b hb).1⟩⟩
 done:=by
  intro X hP hw hK hc i pins s σ H E I hf st hg;subst hP hw hK;obtain ⟨xs,hq,hx⟩:=hg;obtain ⟨its,rv,p,hz⟩:=I.tuple hq;obtain ⟨f0,f1,f2,f3,f4,f5⟩:=hf it (by simp)
  have hl:=rv.length;exact wpAny_pyNext_tuple_end (I.ok.hd hc) st (show s.heap.IsTuple a its.toArray from p) (by simp;omega) fun h' eb=>⟨rfl,I.turned (t':=s.toks) (fun b o hb e=>eb b o hb e) f0 f1 f3 f4 f5⟩
 self:=fun _ _ _ _ _ st h=>wpAny_pyIter_tupleiter st h
theorem Xi {P:Program} {w:World} {K:Frag} {tg:Expr} (it:Ac) (lo:Int) (n:Nat):Turn P w K tg (Itr lo n) [it] it (fun i h=>IsRangeIter h it (lo+(i:Nat)*1) ((n:Int) - (i:Nat)) 1) where
 mem:=by simp
 obj:=fun i h st b hb=>by
  have e:b=it:=by simpa using hb
  subst e;exact ⟨_,st,fun v z=>by
   have z':Data.fields _=Data.cell v:=z;cases z'⟩
 keep:=fun i h h' st k=>k it (by simp) _ st
 item:=by
  intro X hP hw hK hc i pins s σ H E I hf st hg;subst hP hw hK;obtain ⟨f0,f1,f2,f3,f4,f5⟩:=hf it (by simp)
  have W:=Walks.range (prog:=X.prog) (w:=X.w) (I.ok.hd hc) it lo 1 n;refine W.item i s _ _ hg st fun v h' tk hv st' kk=>?_;obtain ⟨t,rfl⟩:=hv;have I1:Inv X pins σ H {s with heap:=h',toks:=tk}:=I.turned (fun b o hb e=>kk b o (by simpa using hb) e) f0 f1 f3 f4 f5
  refine ⟨_,rfl,Y2 (s:={s with heap:=h',toks:=tk}) (n:="range_iterator") st' rfl rfl O0 ⟨.int (lo+i),H,I1,⟨t,?_⟩,⟨rfl,rfl⟩,st',fun b hb=>(hf b hb).1⟩⟩
  rw [Int.mul_one]
 done:=by
  intro X hP hw hK hc i pins s σ H E I hf st hg;subst hP hw hK;obtain ⟨f0,f1,f2,f3,f4,f5⟩:=hf it (by simp)
  exact wpAny_pyNext_range_end (I.ok.hd hc) st (by have:n≤i:=hg;omega) fun h' eb=>⟨rfl,I.turned (t':=s.toks) (fun b o hb e=>eb b o hb e) f0 f1 f3 f4 f5⟩
 self:=fun _ _ _ _ _ st h=>wpAny_pyIter_rangeiter st h
section
variable {X:Cx} {tg:Expr}
theorem YD {pins:List (Ac×Obj)} {σ:St} {H:Hp} {s:Ae} {R:It→Hp→Prop} {E:Ab→Ae→Prop} {lo hi:Int} {t u v:Tok} {tk:Nat} (I:Inv X pins σ H s) (h1: -(2 ^ 62)≤lo) (h2:lo<2 ^ 62) (h3: -(2 ^ 62)≤hi) (h4:hi<2 ^ 62)
  (q:R (Itr lo (hi - lo).toNat) H):wpAny (model X.prog X.w) X.A (pyIter (.ref s.heap.objs.size)) (PIE X pins σ tg R) E {s with heap:=s.heap.push {cls:= .type "range",data:= .fields #[.int lo t,.int hi u,.int 1 v]},toks:=tk}:=by
 refine wpAny_pyIter_range (IsRange.new ..) (small_one h1 h2 h3 h4) ?_;have I1:Inv X pins σ H {s with heap:=s.heap.push {cls:= .type "range",data:= .fields #[.int lo t,.int hi u,.int 1 v]},toks:=tk}:=I.kept fun b o e=>Ar _ e
 refine ⟨(s.heap.push {cls:= .type "range",data:= .fields #[.int lo t,.int hi u,.int 1 v]}).objs.size,[(s.heap.push {cls:= .type "range",data:= .fields #[.int lo t,.int hi u,.int 1 v]}).objs.size],_,_,H,rfl,
  I1.kept (t':=tk) fun b o e=>Ar _ e,Xi _ lo (hi - lo).toNat,?_,fun b hb=>?_,q⟩
 ·have e1:lo+((0:Nat):Int)*1=lo:=by simp
  have e2:(((hi - lo).toNat:Nat):Int) - ((0:Nat):Int)=Builtin.Range.rangeSize lo hi 1:=by rw [rangeSize_one];split <;> omega
  show IsRangeIter _ _ (lo+((0:Nat):Int)*1) ((((hi - lo).toNat:Nat):Int) - ((0:Nat):Int)) 1;rw [e1,e2];exact Bc _ rfl
 ·have e:b=(s.heap.push {cls:= .type "range",data:= .fields #[.int lo t,.int hi u,.int 1 v]}).objs.size:=by simpa using hb
  subst e;exact I1.fpOk (An _) (I1.hok.fresh (An _))
def qiy (ta:TA):TI:=fun σ H R=>ta σ H fun vs H1=>∃ j:Int,vs=[.int j]∧ -(2 ^ 62)≤j∧j<2 ^ 62∧R (Itr 0 j.toNat) H1
def qix (ta:TA):TI:=fun σ H R=>ta σ H fun vs H1=>∃ i j:Int,vs=[.int i,.int j]∧(-(2 ^ 62)≤i∧i<2 ^ 62∧ -(2 ^ 62)≤j∧j<2 ^ 62)∧R (Itr i (j - i).toNat) H1
theorem zi {a:Expr} {ta:TA} {p pos:Pos} (hg:Gl X "range") (hm:X.mg "range"=none) (ha:PA X [a] ta) (hs:starEach [a] X.env=[(false,eval a X.env)]:=by rfl):PI X tg (.Call (.Name "range" p) [a] [] pos) (qiy ta):=by
 intro pins s σ H R I h;refine Call_ (vL I hg hm boot_range (Cm (thn (ha pos pins s σ H _ I h) fun us s1 ⟨vs,H1,I1,r1,q1⟩=>?_) hs rfl));obtain ⟨j,e,q1,q2,q⟩:=q1;subst e;cases r1 with
 | cons r rr=>
  cases rr;obtain ⟨t,rfl⟩:=r;exact call_range_1 (YD I1 ⋯ ⋯ q1 q2 (by simpa using q))
theorem vV {a b:Expr} {ta:TA} {p pos:Pos} (hg:Gl X "range") (hm:X.mg "range"=none) (ha:PA X [a,b] ta) (hs:starEach [a,b] X.env=[(false,eval a X.env),(false,eval b X.env)]:=by rfl) (hs2:starEach [b] X.env=[(false,eval b X.env)]:=by rfl):
  PI X tg (.Call (.Name "range" p) [a,b] [] pos) (qix ta):=by
 intro pins s σ H R I h;refine Call_ (vL I hg hm boot_range (Cm (thn (ha pos pins s σ H _ I h) fun us s1 ⟨vs,H1,I1,r1,q1⟩=>?_) (by rw [hs,hs2]) (by rw [hs2];rfl)))
 obtain ⟨i,j,e,⟨q1,q2,q3,q4⟩,q⟩:=q1;subst e;cases r1 with
 | cons r rr=>
  cases rr with
  | cons r' rr=>
   cases rr;obtain ⟨t,rfl⟩:=r;obtain ⟨t',rfl⟩:=r';exact call_range_2 (YD I1 q1 q2 q3 q4 q)
def QV (wi:TI) (g:TG) (tb:TS):TS:=fun D σ H=>wi σ H fun J H1=>∃ W:Nat→Nat→St→Hp→Prop,(∃ m,W 0 m σ H1)∧∀ i m σ H,W i m σ H→
 (J.stop i H∧D.nx σ H)∨(J.go i H∧∃ N:St→Hp→Prop,(∀ σ' H',N σ' H'→∃ m',m'<m∧W (i+1) m' σ' H')∧∀ x H',J.yld i H x H'→g x σ H' fun σ2 H2=>tb {D with nx:=N,ct:=N,bk:=D.nx} σ2 H2)
def Vk (fp:List Ac) (h:Heap):List (Ac×Obj):=fp.filterMap fun b=>(h.get? b).map fun o=>(b,o)
theorem vg {fp:List Ac} {h:Heap} {b:Ac} {o:Obj} (hb:b∈fp) (e:h.get? b=some o):(b,o)∈Vk fp h:=List.mem_filterMap.mpr ⟨b,hb,by rw [e];rfl⟩
theorem Qf {fp:List Ac} {h:Heap} {p:Ac×Obj} (hp:p∈Vk fp h):p.1∈fp∧h.get? p.1=some p.2:=by
 obtain ⟨b,hb,e⟩:=List.mem_filterMap.mp hp;cases q:h.get? b with
 | none=>rw [q] at e;cases e
 | some o=>
  rw [q] at e;have e':(b,o)=p:=Bh e;subst e';exact ⟨hb,q⟩
theorem Inv.pinned {pins:List (Ac×Obj)} {σ:St} {H:Hp} {s:Ae} {fp:List Ac} (I:Inv X pins σ H s) (hf:∀ b∈fp,VI X pins H b) (ho:∀ b∈fp,∃ o,s.heap.get? b=some o∧∀ v,o.data≠ .cell v):Inv X (pins++Vk fp s.heap) σ H s:=
 I.pins_of fun p hp=>(Az.mp hp).elim (fun z=>I.pin p (Bs _ z)) fun z=>by
  obtain ⟨hb,e⟩:=Qf z;obtain ⟨f0,f1,f2,_⟩:=hf p.1 hb;obtain ⟨o,e',d⟩:=ho p.1 hb;rw [e] at e';cases e';exact ⟨e,f0,f1,f2,d⟩
theorem Inv.unpinned {pins pl:List (Ac×Obj)} {σ:St} {H:Hp} {s:Ae} (I:Inv X (pins++pl) σ H s):Inv X pins σ H s:=I.pins_of fun p hp=>I.pin p (Bs _ (Ea _ hp))
theorem ji {iter:Expr} {body:List Stmt} {wi:TI} {g:TG} {tb:TS} {pos:Pos} (hp:PassesOwn (model X.prog X.w) X.A X.env X.xe) (hc:X.calm=true) (hi:PI X tg iter wi) (hg:PG X tg g) (hb:PSs X body tb)
  (hs:∀ x,foldedSetIterable iter X.env x=pure x:=by intro _;rfl):PS X (.For tg iter body [] pos) (QV wi g tb):=by
 intro pins s σ H D I h;refine wpAny_For (thn (hi pins s σ H _ I h) fun v s1 h1=>thn h1 fun itv s2 h2=>?_) hs;obtain ⟨it,fp,tn,J,H2,e,I2,T,st2,f2,W,⟨m0,w0⟩,turn⟩:=h2;subst e;have stat:∀ {H':Hp},(∀ b∈fp,H' b=none)→∀ b∈fp,VI X pins H' b:=fun hn b hb=>⟨hn b hb,(f2 b hb).2⟩;refine codeAny_forLoop_any (fun n s'=>∃ i σ' H',Inv X pins σ' H' s'∧tn i s'.heap∧(∀ b∈fp,H' b=none)∧W i n σ' H') ?_ m0 ⟨0,σ,H2,I2,st2,fun b hb=>(f2 b hb).1,w0⟩;rintro n s3 ⟨i,σ3,H3,I3,st3,fr3,w3⟩;rcases turn i n σ3 H3 w3 with ⟨stop,qn⟩ | ⟨go,N,hN,step⟩
 ·refine De hp (thn (T.done X rfl rfl rfl hc i pins s3 σ3 H3 X.xe I3 (stat fr3) st3 stop) fun r s4 ⟨hr,I4⟩=>?_);subst hr;exact wpAny_execs_nil ⟨σ3,H3,I4,qn⟩
 ·refine De hp (thn (T.item X rfl rfl rfl hc i pins s3 σ3 H3 X.xe I3 (stat fr3) st3 go) fun r s4 ⟨u,hr,h4⟩=>?_);subst hr;refine De hp (thn h4 fun _ s5 ⟨x,H5,I5,r5,y5,st5,fr5⟩=>?_);have I5':=I5.pinned (stat fr5) (T.obj _ _ st5);refine De hp (thn (hg _ s5 σ3 H5 x u _ I5' r5 (step x H5 y5)) fun _ s6 ⟨σ6,H6,I6,q6⟩=>?_);refine De hp (thn (hb _ s6 σ6 H6 _ I6 q6) fun f s7 q7=>?_);have again:∀ {σ7:St} {H7:Hp},Inv X (pins++Vk fp s5.heap) σ7 H7 s7→N σ7 H7→∃ m,m<n∧∃ i σ' H',Inv X pins σ' H' s7∧tn i s7.heap∧(∀ b∈fp,H' b=none)∧W i m σ' H':=fun {σ7 H7} I7 n7=>by
   obtain ⟨m',hm,w7⟩:=hN σ7 H7 n7;refine ⟨m',hm,i+1,σ7,H7,I7.unpinned,T.keep _ _ _ st5 fun b hb o e=>(I7.pin (b,o) (Bs _ (Bs _ (vg hb e)))).1,fun b hb=>?_,w7⟩;obtain ⟨o,e,d⟩:=T.obj _ _ st5 b hb;exact (I7.pin (b,o) (Bs _ (Bs _ (vg hb e)))).2.1
  cases f with
  | next=>obtain ⟨σ7,H7,I7,n7⟩:=q7;exact again I7 n7
  | cont=>obtain ⟨σ7,H7,I7,n7⟩:=q7;exact again I7 n7
  | brk=>obtain ⟨σ7,H7,I7,q7⟩:=q7;exact ⟨σ7,H7,I7.unpinned,q7⟩
  | ret v=>obtain ⟨x7,σ7,H7,I7,r7,q7⟩:=q7;exact ⟨x7,σ7,H7,I7.unpinned,r7,q7⟩
end
abbrev R2:=V→V→Hp→VK→Prop
def OpR (X:Cx) (f:Ab→Ab→Sem Ab) (r:R2):Prop:=
 ∀ (pins:List (Ac×Obj)) (s:Ae) (σ:St) (H:Hp) (x y:V) (v u:Ab) (Q:VK),Inv X pins σ H s→qz x v→qz y u→r x y H Q→
  wpAny (model X.prog X.w) X.A (f v u) (EP X pins σ Q) X.xe s
def UnR (X:Cx) (f:Ab→Sem Ab) (r:V→Hp→VK→Prop):Prop:=
 ∀ (pins:List (Ac×Obj)) (s:Ae) (σ:St) (H:Hp) (x:V) (v:Ab) (Q:VK),Inv X pins σ H s→qz x v→r x H Q→
  wpAny (model X.prog X.w) X.A (f v) (EP X pins σ Q) X.xe s
def JI (X:Cx) (f:Ab) (r:List V→Hp→VK→Prop):Prop:=
 ∀ (pins:List (Ac×Obj)) (s:Ae) (σ:St) (H:Hp) (xs:List V) (us:List Ab) (Q:VK),Inv X pins σ H s→qK xs us→r xs H Q→
  wpAny (model X.prog X.w) X.A (call f us) (EP X pins σ Q) X.xe s
def TruR (X:Cx) (r:V→Hp→(Bool→Hp→Prop)→Prop):Prop:=
 ∀ (pins:List (Ac×Obj)) (s:Ae) (σ:St) (H:Hp) (x:V) (v:Ab) (Q:Bool→Hp→Prop),Inv X pins σ H s→qz x v→r x H Q→
  wpAny (model X.prog X.w) X.A (truthy v) (TP X pins σ Q) X.xe s
def tOp (r:R2) (ta tb:TE):TE:=fun σ H Q=>ta σ H fun x H1=>tb σ H1 fun y H2=>r x y H2 Q
def tUn (r:V→Hp→VK→Prop) (ta:TE):TE:=fun σ H Q=>ta σ H fun x H1=>r x H1 Q
def rI (C:Int→Int→Prop) (g:Int→Int→V):R2:=fun x y H Q=>∃ i j,x= .int i∧y= .int j∧C i j∧Q (g i j) H
def rI0 (g:Int→Int→V):R2:=fun x y H Q=>∃ i j,x= .int i∧y= .int j∧Q (g i j) H
def rU (g:Int→V):V→Hp→VK→Prop:=fun x H Q=>∃ i,x= .int i∧Q (g i) H
section
variable {X:Cx} {a b c:Expr} {ta tb tc:TE} {pos:Pos}
theorem qg7 (ha:PE X a ta) (hb:PE X b tb) {pins:List (Ac×Obj)} {s:Ae} {σ:St} {H:Hp} {R:V→V→Hp→Prop} (I:Inv X pins σ H s)
  (h:ta σ H fun x H1=>tb σ H1 fun y H2=>R x y H2) {Q:Ab→Ae→Prop} {f:Ab→Ab→Sem Ab}
  (hf:∀ v u s2 x y H2,Inv X pins σ H2 s2→qz x v→qz y u→R x y H2→wpAny (model X.prog X.w) X.A (f v u) Q X.xe s2):
  wpAny (model X.prog X.w) X.A (eval a X.env) (fun v s₁=>wpAny (model X.prog X.w) X.A (eval b X.env) (fun u s₂=>wpAny (model X.prog X.w) X.A (f v u) Q X.xe s₂) X.xe s₁) X.xe s:=by
 refine thn (ha pins s σ H _ I h) fun v s1 ⟨x,H1,I1,r1,q1⟩=>?_;refine thn (hb pins s1 σ H1 _ I1 q1) fun u s2 ⟨y,H2,I2,r2,q2⟩=>?_;exact hf v u s2 x y H2 I2 r1 r2 q2
theorem qH {op:Operator} {r:R2} (ho:OpR X (binaryOp op) r) (ha:PE X a ta) (hb:PE X b tb):PE X (.BinOp a op b pos) (tOp r ta tb):=by
 intro pins s σ H Q I h;exact wpAny_BinOp (qg7 ha hb I h fun v u s2 x y H2 I2 rx ry q=>ho pins s2 σ H2 x y v u Q I2 rx ry q)
theorem Zf {op:UnaryOp} {r:V→Hp→VK→Prop} (ho:UnR X (unaryOp op) r) (ha:PE X a ta):PE X (.UnaryOp op a pos) (tUn r ta):=by
 intro pins s σ H Q I h;exact UnaryOp_ (thn (ha pins s σ H _ I h) fun v s1 ⟨x,H1,I1,r1,q1⟩=>ho pins s1 σ H1 x v Q I1 r1 q1)
theorem opI {f:Ab→Ab→Sem Ab} {C:Int→Int→Prop} {g:Int→Int→Int}
  (rule:∀ (i j:Int) (t u:Tok) (s:Ae) (Q:Ab→Ae→Prop) (E:Ab→Ae→Prop),C i j→Q (.int (g i j) s.toks) {s with toks:=s.toks+1}→wpAny (model X.prog X.w) X.A (f (.int i t) (.int j u)) Q E s):
  OpR X f (rI C fun i j=> .int (g i j)):=by
 intro pins s σ H x y v u Q I rx ry h;obtain ⟨i,j,rfl,rfl,hc,q⟩:=h;obtain ⟨t,rfl⟩:=rx;obtain ⟨t',rfl⟩:=ry;exact rule i j t t' s _ _ hc ⟨.int (g i j),H,I.tok _,⟨_,rfl⟩,q⟩
theorem qdc {f:Ab→Ab→Sem Ab} {g:Int→Int→Int}
  (rule:∀ (i j:Int) (t u:Tok) (s:Ae) (Q:Ab→Ae→Prop) (E:Ab→Ae→Prop),Q (.int (g i j) s.toks) {s with toks:=s.toks+1}→wpAny (model X.prog X.w) X.A (f (.int i t) (.int j u)) Q E s):
  OpR X f (rI0 fun i j=> .int (g i j)):=by
 intro pins s σ H x y v u Q I rx ry h;obtain ⟨i,j,rfl,rfl,q⟩:=h;obtain ⟨t,rfl⟩:=rx;obtain ⟨t',rfl⟩:=ry;exact rule i j t t' s _ _ ⟨.int (g i j),H,I.tok _,⟨_,rfl⟩,q⟩
theorem qdd {f:Ab→Ab→Sem Ab} {g:Int→Int→Bool}
  (rule:∀ (i j:Int) (t u:Tok) (s:Ae) (Q:Ab→Ae→Prop) (E:Ab→Ae→Prop),Q (.bool (g i j)) s→wpAny (model X.prog X.w) X.A (f (.int i t) (.int j u)) Q E s):
  OpR X f (rI0 fun i j=> .bl (g i j)):=by
 intro pins s σ H x y v u Q I rx ry h;obtain ⟨i,j,rfl,rfl,q⟩:=h;obtain ⟨t,rfl⟩:=rx;obtain ⟨t',rfl⟩:=ry;exact rule i j t t' s _ _ ⟨.bl (g i j),H,I,rfl,q⟩
def qjc (i j:Int):Prop:=0<j∧j<1073741824
def qhf (i j:Int):Prop:=0≤j∧j≤1000000∧i.natAbs<2 ^ 64
def qem (i j:Int):Prop:=(-(2 ^ 64)<i∧i<2 ^ 64)∨(-(2 ^ 64)<j∧j<2 ^ 64)
theorem qem.ok {i j:Int} (h:qem i j):IntMulOk i j:=by
 rcases h with ⟨h1,h2⟩ | ⟨h1,h2⟩
 ·exact .of_left (intBits_le_64 h1 h2)
 ·exact .of_right (intBits_le_64 h1 h2)
theorem qf5:OpR X (binaryOp .Add) (rI0 fun i j=> .int (i+j)):=qdc fun _ _ _ _ _ _ _ q=>add_int q
theorem yP:OpR X (binaryOp .Sub) (rI0 fun i j=> .int (i - j)):=qdc fun _ _ _ _ _ _ _ q=>sub_int q
theorem yR:OpR X (binaryOp .Mult) (rI qem fun i j=> .int (i*j)):=opI fun _ _ _ _ _ _ _ hc q=>mul_int q hc.ok
theorem qc9:OpR X (binaryOp .FloorDiv) (rI qjc fun i j=> .int (i / j)):=opI fun i j _ _ _ _ _ hc q=>by
 have h1:(0:Int)<j:=hc.1;have h2:j<1073741824:=hc.2;exact floordiv_int ⋯ (by rw [Int.fdiv_eq_ediv_of_nonneg i ⋯];exact q) (.inl (PyProof.noPylong_small ⋯))
theorem We:OpR X (binaryOp .Mod) (rI (fun _ j=>0<j) fun i j=> .int (i % j)):=opI fun i j _ _ _ _ _ hc q=>by
 have h1:(0:Int)<j:=hc;exact mod_int' ⋯ (by rw [Int.fmod_eq_emod_of_nonneg i ⋯];exact q)
theorem qay:OpR X (binaryOp .Pow) (rI qhf fun i j=> .int (i ^ j.toNat)):=opI fun _ _ _ _ _ _ _ hc q=>pow_int_small hc.1 hc.2.1 hc.2.2 q
theorem qf2:OpR X (binaryOp .LShift) (rI qhf fun i j=> .int (i*2 ^ j.toNat)):=opI fun _ _ _ _ _ _ _ hc q=>lshift_int_small hc.1 hc.2.1 hc.2.2 q
theorem qa0:OpR X (binaryOp .BitAnd) (rI0 fun i j=> .int (Builtin.bitAnd i j)):=qdc fun _ _ _ _ _ _ _ q=>and_int q
theorem qe0:OpR X (binaryOp .BitOr) (rI0 fun i j=> .int (Builtin.bitOr i j)):=qdc fun _ _ _ _ _ _ _ q=>or_int q
theorem unI {f:Ab→Sem Ab} {g:Int→Int}
  (rule:∀ (i:Int) (t:Tok) (s:Ae) (Q:Ab→Ae→Prop) (E:Ab→Ae→Prop),Q (.int (g i) s.toks) {s with toks:=s.toks+1}→wpAny (model X.prog X.w) X.A (f (.int i t)) Q E s):
  UnR X f (rU fun i=> .int (g i)):=by
 intro pins s σ H x v Q I rx h;obtain ⟨i,rfl,q⟩:=h;obtain ⟨t,rfl⟩:=rx;exact rule i t s _ _ ⟨.int (g i),H,I.tok _,⟨_,rfl⟩,q⟩
theorem QJ:UnR X (unaryOp .USub) (rU fun i=> .int (-i)):=unI fun _ _ _ _ _ q=>neg_int q
theorem QK:UnR X (unaryOp .Invert) (rU fun i=> .int (Builtin.bitNot i)):=unI fun _ _ _ _ _ q=>invert_int q
end
def qh0:V→V→Bool
 | .non,.non=>true | .non,.int _=>true | .int _,.non=>true | .non,.bl _=>true | .bl _,.non=>true | .non,.str _=>true | .str _,.non=>true
 | .int _,.int _=>true | .bl _,.bl _=>true | .str _,.str _=>true | .byt _,.byt _=>true
 | .int _,.str _=>true | .str _,.int _=>true | .bl _,.str _=>true | .str _,.bl _=>true
 | _,_=>false
def rEq:R2:=fun x y H Q=>qh0 x y=true∧Q (.bl (decide (x=y))) H
def rNe:R2:=fun x y H Q=>qh0 x y=true∧Q (.bl (!decide (x=y))) H
theorem ZI {i j:Int}:decide (V.int i=V.int j)=(i==j):=by
 rw [Bn];simp
theorem qb0 {i j:Bool}:decide (V.bl i=V.bl j)=(i==j):=by
 rw [Bn];simp
theorem ZH {i j:Str}:decide (V.str i=V.str j)=(i==j):=by
 rw [Bn];simp
theorem ZJ {i j:Array UInt8}:decide (V.byt i=V.byt j)=(i.toList==j.toList):=by
 rw [Bn];cases i;cases j;simp
section
variable {X:Cx} {a b c:Expr} {ta tb tc:TE} {pos:Pos}
theorem qV {pins:List (Ac×Obj)} {σ:St} {H:Hp} {s:Ae} {Q:VK} {k k':Bool} (I:Inv X pins σ H s) (q:Q (.bl k) H) (e:k=k'):EP X pins σ Q (.bool k') s:=by
 subst e;exact ⟨.bl k,H,I,rfl,q⟩
theorem ze:OpR X (compareOp .Eq) rEq:=by
 intro pins s σ H x y v u Q I rx ry h;obtain ⟨hs,q⟩:=h;cases x with
 | non=>
  cases rx;cases y with
  | non=>cases ry;exact PySem.EqNone.eq_none_none (qV I q (by simp))
  | bl j=>cases ry;exact PySem.EqNone.eq_none_bool (qV I q (by simp))
  | int j=>obtain ⟨t',rfl⟩:=ry;exact PySem.EqNone.eq_none_int (qV I q (by simp))
  | str j=>obtain ⟨t',rfl⟩:=ry;exact PySem.EqNone.eq_none_str (qV I q (by simp))
  | _=>exact absurd (show false=true from hs) Ak
 | bl i=>
  cases rx;cases y with
  | non=>cases ry;exact PySem.EqNone.eq_bool_none (qV I q (by simp))
  | bl j=>cases ry;exact eq_bool (qV I q qb0)
  | str j=>obtain ⟨t',rfl⟩:=ry;exact PySem.EqMixed.eq_bool_str (qV I q (by simp))
  | _=>exact absurd (show false=true from hs) Ak
 | int i=>
  obtain ⟨t,rfl⟩:=rx;cases y with
  | non=>cases ry;exact PySem.EqNone.eq_int_none (qV I q (by simp))
  | int j=>obtain ⟨t',rfl⟩:=ry;exact eq_int (qV I q ZI)
  | str j=>obtain ⟨t',rfl⟩:=ry;exact PySem.EqMixed.eq_int_str (qV I q (by simp))
  | _=>exact absurd (show false=true from hs) Ak
 | str i=>
  obtain ⟨t,rfl⟩:=rx;cases y with
  | non=>cases ry;exact PySem.EqNone.eq_str_none (qV I q (by simp))
  | bl j=>cases ry;exact PySem.EqMixed.eq_str_bool (qV I q (by simp))
  | int j=>obtain ⟨t',rfl⟩:=ry;exact PySem.EqMixed.eq_str_int (qV I q (by simp))
  | str j=>obtain ⟨t',rfl⟩:=ry;exact eq_str (qV I q ZH)
  | _=>exact absurd (show false=true from hs) Ak
 | byt i=>
  obtain ⟨t,rfl⟩:=rx;cases y with
  | byt j=>obtain ⟨t',rfl⟩:=ry;exact PySem.W.eq_bytes (qV I q ZJ)
  | _=>exact absurd (show false=true from hs) Ak
 | _=>cases y <;> exact absurd (show false=true from hs) Ak
theorem VA:OpR X (compareOp .NotEq) rNe:=by
 intro pins s σ H x y v u Q I rx ry h;obtain ⟨hs,q⟩:=h;cases x with
 | non=>
  cases rx;cases y with
  | non=>cases ry;exact PySem.EqNone.ne_none_none (qV I q (by simp))
  | bl j=>cases ry;exact PySem.EqNone.ne_none_bool (qV I q (by simp))
  | int j=>obtain ⟨t',rfl⟩:=ry;exact PySem.EqNone.ne_none_int (qV I q (by simp))
  | str j=>obtain ⟨t',rfl⟩:=ry;exact PySem.EqNone.ne_none_str (qV I q (by simp))
  | _=>exact absurd (show false=true from hs) Ak
 | bl i=>
  cases rx;cases y with
  | non=>cases ry;exact PySem.EqNone.ne_bool_none (qV I q (by simp))
  | bl j=>cases ry;exact ne_bool (qV I q (congrArg not qb0))
  | str j=>obtain ⟨t',rfl⟩:=ry;exact PySem.EqMixed.ne_bool_str (qV I q (by simp))
  | _=>exact absurd (show false=true from hs) Ak
 | int i=>
  obtain ⟨t,rfl⟩:=rx;cases y with
  | non=>cases ry;exact PySem.EqNone.ne_int_none (qV I q (by simp))
  | int j=>obtain ⟨t',rfl⟩:=ry;exact ne_int (qV I q (congrArg not ZI))
  | str j=>obtain ⟨t',rfl⟩:=ry;exact PySem.EqMixed.ne_int_str (qV I q (by simp))
  | _=>exact absurd (show false=true from hs) Ak
 | str i=>
  obtain ⟨t,rfl⟩:=rx;cases y with
  | non=>cases ry;exact PySem.EqNone.ne_str_none (qV I q (by simp))
  | bl j=>cases ry;exact PySem.EqMixed.ne_str_bool (qV I q (by simp))
  | int j=>obtain ⟨t',rfl⟩:=ry;exact PySem.EqMixed.ne_str_int (qV I q (by simp))
  | str j=>obtain ⟨t',rfl⟩:=ry;exact ne_str (qV I q (congrArg not ZH))
  | _=>exact absurd (show false=true from hs) Ak
 | byt i=>
  obtain ⟨t,rfl⟩:=rx;cases y with
  | byt j=>obtain ⟨t',rfl⟩:=ry;exact PySem.W.ne_bytes (qV I q (congrArg not ZJ))
  | _=>exact absurd (show false=true from hs) Ak
 | _=>cases y <;> exact absurd (show false=true from hs) Ak
theorem wg:OpR X (compareOp .Lt) (rI0 fun i j=> .bl (decide (i<j))):=qdd fun _ _ _ _ _ _ _ q=>lt_int q
theorem Wf:OpR X (compareOp .LtE) (rI0 fun i j=> .bl (decide (i≤j))):=qdd fun _ _ _ _ _ _ _ q=>le_int q
theorem Zm:OpR X (compareOp .Gt) (rI0 fun i j=> .bl (decide (j<i))):=qdd fun _ _ _ _ _ _ _ q=>gt_int q
theorem qij:OpR X (compareOp .GtE) (rI0 fun i j=> .bl (decide (j≤i))):=qdd fun _ _ _ _ _ _ _ q=>ge_int q
theorem qaz:OpR X (compareOp .Is) (fun x y H Q=>y= .non∧Q (.bl (decide (x= .non))) H):=by
 intro pins s σ H x y v u Q I rx ry h;obtain ⟨rfl,q⟩:=h;cases ry;refine is_none_gen (qV I q ?_);cases x <;> first
  | (cases rx;rfl)
  | (obtain ⟨t,rfl⟩:=rx;rfl)
theorem qc7:OpR X (compareOp .IsNot) (fun x y H Q=>y= .non∧Q (.bl (!decide (x= .non))) H):=by
 intro pins s σ H x y v u Q I rx ry h;obtain ⟨rfl,q⟩:=h;cases ry;refine isnot_none_gen (qV I q ?_);cases x <;> first
  | (cases rx;rfl)
  | (obtain ⟨t,rfl⟩:=rx;rfl)
theorem OpR.or {f:Ab→Ab→Sem Ab} {r r':R2} (h:OpR X f r) (h':OpR X f r'):OpR X f (fun x y H Q=>r x y H Q∨r' x y H Q):=by
 intro pins s σ H x y v u Q I rx ry q;rcases q with q | q
 ·exact h pins s σ H x y v u Q I rx ry q
 ·exact h' pins s σ H x y v u Q I rx ry q
theorem qq (b:Expr) {op:CmpOp} (h:op≠ .In:=by decide) (h2:op≠ .NotIn:=by decide):behindInMarks op b=false:=by
 have e1:(op==CmpOp.In)=false:=by cases op <;> first | rfl | exact absurd rfl h
 have e2:(op==CmpOp.NotIn)=false:=by cases op <;> first | rfl | exact absurd rfl h2
 cases b <;> simp [behindInMarks,e1,e2]
theorem zb {op:CmpOp} {r:R2} (ho:OpR X (compareOp op) r) (ha:PE X a ta) (hb:PE X b tb) (hm:behindInMarks op b=false):PE X (.Compare a [op] [b] pos) (tOp r ta tb):=by
 intro pins s σ H Q I h;exact wpAny_Compare1 (qg7 ha hb I h fun v u s2 x y H2 I2 rx ry q=>ho pins s2 σ H2 x y v u Q I2 rx ry q) hm
def Vq (t:TE):TT:=fun σ H Q=>t σ H fun x H'=>∃ k,x= .bl k∧Q k H'
theorem qu {op:CmpOp} {r:R2} (ho:OpR X (compareOp op) r) (ha:PE X a ta) (hb:PE X b tb) (hm:behindInMarks op b=false):PT X (.Compare a [op] [b] pos) (Vq (tOp r ta tb)):=by
 intro pins s σ H Q I h;refine wpAny_isTrue_Compare1 (thn (ha pins s σ H _ I h) fun v s1 ⟨x,H1,I1,r1,q1⟩=>thn (hb pins s1 σ H1 _ I1 q1) fun u s2 ⟨y,H2,I2,r2,q2⟩=>
  thn (ho pins s2 σ H2 x y v u _ I2 r1 r2 q2) fun c s3 ⟨z,H3,I3,r3,k,e,q3⟩=>?_) hm
 subst e;cases r3;exact Ce ⟨H3,I3,q3⟩
def QX (r r':R2) (ta tb tc:TE):TE:=fun σ H Q=>ta σ H fun x H1=>tb σ H1 fun y H2=>r x y H2 fun z H3=>∃ k,z= .bl k∧
 (if k=true then tc σ H3 fun w' H4=>r' y w' H4 Q else Q (.bl false) H3)
theorem Vy {op op':CmpOp} {r r':R2} (ho:OpR X (compareOp op) r) (ho':OpR X (compareOp op') r') (ha:PE X a ta) (hb:PE X b tb) (hc:PE X c tc)
  (hm:lastMarks [op,op'] [b,c]=false:=by with_unfolding_all rfl):PE X (.Compare a [op,op'] [b,c] pos) (QX r r' ta tb tc):=by
 intro pins s σ H Q I h;refine Compare_chain (thn (ha pins s σ H _ I h) fun v s1 ⟨x,H1,I1,r1,q1⟩=>chain_link (thn (hb pins s1 σ H1 _ I1 q1) fun u s2 ⟨y,H2,I2,r2,q2⟩=>
  thn (ho pins s2 σ H2 x y v u _ I2 r1 r2 q2) fun d s3 ⟨z,H3,I3,r3,k,e,q3⟩=>?_)) hm
 subst e;cases r3;refine Ce ?_;cases k with
 | false=>exact ite_ff ⟨.bl false,H3,I3,rfl,q3⟩
 | true=>exact ite_tt (chain_last (thn (hc pins s3 σ H3 _ I3 q3) fun w' s4 ⟨z',H4,I4,r4,q4⟩=>ho' pins s4 σ H4 y z' u w' Q I4 r2 r4 q4))
theorem qaj {op op':CmpOp} {r r':R2} (ho:OpR X (compareOp op) r) (ho':OpR X (compareOp op') r') (ha:PE X a ta) (hb:PE X b tb) (hc:PE X c tc)
  (hm:lastMarks [op,op'] [b,c]=false:=by with_unfolding_all rfl):PT X (.Compare a [op,op'] [b,c] pos) (Vq (QX r r' ta tb tc)):=by
 intro pins s σ H Q I h;refine isTrue_chain (thn (ha pins s σ H _ I h) fun v s1 ⟨x,H1,I1,r1,q1⟩=>test_link (thn (hb pins s1 σ H1 _ I1 q1) fun u s2 ⟨y,H2,I2,r2,q2⟩=>
  thn (ho pins s2 σ H2 x y v u _ I2 r1 r2 q2) fun d s3 ⟨z,H3,I3,r3,k,e,q3⟩=>?_)) hm
 subst e;cases r3;refine Ce ?_;cases k with
 | false=>
  obtain ⟨k',e',q'⟩:=q3;cases e';exact ite_ff ⟨H3,I3,q'⟩
 | true=>
  refine ite_tt (test_last (thn (hc pins s3 σ H3 _ I3 q3) fun w' s4 ⟨z',H4,I4,r4,q4⟩=>thn (ho' pins s4 σ H4 y z' u w' _ I4 r2 r4 q4) fun d' s5 ⟨z2,H5,I5,r5,k2,e2,q5⟩=>?_));subst e2;cases r5;exact Ce ⟨H5,I5,q5⟩
def qhb (K:Frag) (x:V) (H:Hp) (k:Bool):Prop:=
 match x with
 | .non=>k=false
 | .bl b=>k=b
 | .int i=>k=(i !=0)
 | .str y=>y.length≤Af∧k=((y.length:Int) !=0)
 | .byt y=>y.size≤Af∧k=((y.size:Int) !=0)
 | .ref p=>(∃ xs,SqL K H p xs∧k=!xs.isEmpty)∨(∃ xs,SqT K H p xs∧k=!xs.isEmpty)∨∃ kvs,H p=some (.dK kvs)∧k=!kvs.isEmpty
 | _=>False
theorem XO {κ:Type} {kvs:List (κ×V)} {vs:List (κ×Ab)} (r:KV kvs vs):(!vs.isEmpty)=!kvs.isEmpty:=by
 cases r <;> rfl
theorem Wq {xs:List V} {its:List Ab} (r:qK xs its):(!its.toArray.isEmpty)=!xs.isEmpty:=by
 cases r <;> simp
theorem V3:(Af:Nat)<2 ^ 63:=by rw [sizeLine_eq];decide
theorem qfc:TruR X (fun x H Q=>∃ k,qhb X.K x H k∧Q k H):=by
 intro pins s σ H x v Q I rx h;obtain ⟨k,e,q⟩:=h;have hl:=V3;have hs:Af=16777216:=sizeLine_eq;cases x with
 | non=>
  cases rx;have e':k=false:=e;subst e';exact truthy_none ⟨H,I,q⟩
 | bl b=>
  cases rx;have e':k=b:=e;subst e';exact Ce ⟨H,I,q⟩
 | int i=>
  obtain ⟨t,rfl⟩:=rx;have e':k=(i !=0):=e;subst e';exact PySem.P.truthy_int ⟨H,I,q⟩
 | str y=>
  obtain ⟨t,rfl⟩:=rx;obtain ⟨hy,e'⟩:y.length≤Af∧k=((y.length:Int) !=0):=e;subst e';exact PySem.P.truthy_str ⋯ ⟨H,I.tok _,q⟩
 | byt y=>
  obtain ⟨t,rfl⟩:=rx;obtain ⟨hy,e'⟩:y.size≤Af∧k=((y.size:Int) !=0):=e;subst e';exact PySem.W.truthy_bytes ⋯ ⟨H,I.tok _,q⟩
 | ref p=>
  cases rx;have e':(∃ xs,SqL X.K H p xs∧k=!xs.isEmpty)∨(∃ xs,SqT X.K H p xs∧k=!xs.isEmpty)∨∃ kvs,H p=some (.dK kvs)∧k=!kvs.isEmpty:=e;rcases e' with ⟨xs,hx,e'⟩ | ⟨xs,hx,e'⟩ | ⟨kvs,hx,e'⟩
  ·subst e';obtain ⟨its,r,pl,hz⟩:=I.list hx;have hlen:=r.length;exact wpAny_truthy_list pl.isList (by simp only [A5];omega) ⟨H,I.tok _,by rw [Wq r];exact q⟩
  ·subst e';obtain ⟨its,r,pl,hz⟩:=I.tuple hx;have hlen:=r.length;exact truthy_tuple pl (by simp only [A5];omega) ⟨H,I.tok _,by rw [Wq r];exact q⟩
  ·subst e';obtain ⟨hz,hS,vs,r,m⟩:kvs.length≤Af∧(p==sysModules)=false∧∃ vs,KV kvs vs∧s.heap.DictOf (zc X.prog X.w) p vs:=I.hok p _ hx;have hlen:kvs.length=vs.length:=Paired.length r;exact wpAny_truthy_dict hS m ⋯ ⟨H,I.tok _,by rw [XO r];exact q⟩
 | _=>exact (show False from e).elim
theorem qai (ha:PE X a ta) (he:∀ whole,isTrue a X.env whole=(do let v ← whole;standAt a.pos;holding [v] (truthy v))):
  PT X a (fun σ H Q=>ta σ H fun x H'=>∃ k,qhb X.K x H' k∧Q k H'):=by
 intro pins s σ H Q I h;exact isTrue_plain (thn (ha pins s σ H _ I h) fun v s1 ⟨x,H1,I1,r1,q1⟩=>qfc pins s1 σ H1 x v Q I1 r1 q1) (he _)
theorem Xz:OpR X (binaryOp .Add) (fun x y H Q=>∃ i j,x= .str i∧y= .str j∧i.length+j.length≤Af∧Q (.str (i++j)) H):=by
 intro pins s σ H x y v u Q I rx ry h;obtain ⟨i,j,rfl,rfl,hz,q⟩:=h;obtain ⟨t,rfl⟩:=rx;obtain ⟨t',rfl⟩:=ry;exact add_str (fun t' tk=>⟨.str (i++j),H,I.tok _,⟨_,rfl⟩,q⟩) hz
theorem v5 {x:V} {us:List Ab} (r:qK [x] us):∃ u,us=[u]∧qz x u:=by
 cases r with
 | cons r1 r2=>cases r2;exact ⟨_,rfl,r1⟩
theorem qen {x y:V} {us:List Ab} (r:qK [x,y] us):∃ u w',us=[u,w']∧qz x u∧qz y w':=by
 cases r with
 | cons r1 r2=>
  cases r2 with
  | cons r3 r4=>cases r4;exact ⟨_,_,rfl,r1,r3⟩
theorem QF (hc:X.calm=true):JI X (.builtin "min") (fun xs H Q=>∃ i j,xs=[.int i,.int j]∧Q (.int (if j<i then j else i)) H):=by
 intro pins s σ H xs us Q I r h;obtain ⟨i,j,rfl,q⟩:=h;obtain ⟨u,w',rfl,⟨t,rfl⟩,⟨t',rfl⟩⟩:=qen r;refine min_two_ints (I.ok.hd hc) fun h' tk k=>⟨_,H,I.kept k,?_,q⟩
 by_cases hj:j<i
 ·rw [if_pos hj,if_pos hj];exact ⟨_,rfl⟩
 ·rw [if_neg hj,if_neg hj];exact ⟨_,rfl⟩
theorem yp:JI X (.type "int") (fun xs H Q=>(∃ i,xs=[.int i]∧Q (.int i) H)∨∃ k,xs=[.bl k]∧Q (.int (if k then 1 else 0)) H):=by
 intro pins s σ H xs us Q I r h;rcases h with ⟨i,rfl,q⟩ | ⟨k,rfl,q⟩
 ·obtain ⟨u,rfl,t,rfl⟩:=v5 r;exact call_int_int ⟨.int i,H,I,⟨_,rfl⟩,q⟩
 ·obtain ⟨u,rfl,r1⟩:=v5 r;cases r1;exact call_int_bool ⟨.int (if k then 1 else 0),H,I.tok _,⟨_,rfl⟩,q⟩
def qck (K:Frag) (x:V) (H:Hp) (n:Nat):Prop:=
 match x with
 | .str y=>y.length≤Af∧n=y.length
 | .byt y=>y.size≤Af∧n=y.size
 | .ref p=>(∃ xs,SqL K H p xs∧n=xs.length)∨∃ xs,SqT K H p xs∧n=xs.length
 | _=>False
theorem qce:JI X (.builtin "len") (fun xs H Q=>∃ x n,xs=[x]∧qck X.K x H n∧Q (.int n) H):=by
 intro pins s σ H xs us Q I r h;obtain ⟨x,n,rfl,e,q⟩:=h;obtain ⟨u,rfl,rx⟩:=v5 r;have hl:=V3;have hs:Af=16777216:=sizeLine_eq;cases x with
 | str y=>
  obtain ⟨t,rfl⟩:=rx;obtain ⟨hy,e'⟩:y.length≤Af∧n=y.length:=e;subst e';exact len_str ⋯ ⟨.int _,H,I.tok _,⟨_,rfl⟩,q⟩
 | byt y=>
  obtain ⟨t,rfl⟩:=rx;obtain ⟨hy,e'⟩:y.size≤Af∧n=y.size:=e;subst e';exact PySem.W.len_bytes ⋯ ⟨.int _,H,I.tok _,⟨_,rfl⟩,q⟩
 | ref p=>
  cases rx;have e':(∃ xs,SqL X.K H p xs∧n=xs.length)∨∃ xs,SqT X.K H p xs∧n=xs.length:=e;rcases e' with ⟨xs,hx,e'⟩ | ⟨xs,hx,e'⟩
  ·subst e';obtain ⟨its,r',pl,hz⟩:=I.list hx;have hlen:=r'.length;exact Calls.call_len_list pl.isList (by simp only [A5];omega) ⟨.int xs.length,H,I.tok _,⟨_,by simp only [A5];rw [hlen]⟩,q⟩
  ·subst e';obtain ⟨its,r',pl,hz⟩:=I.tuple hx;have hlen:=r'.length;exact len_tuple pl (by simp only [A5];omega) ⟨.int xs.length,H,I.tok _,⟨_,by simp only [A5];rw [hlen]⟩,q⟩
 | _=>exact (show False from e).elim
end
structure ObjM (h:Heap) (x dx C:Ac) (mA:Str→Option Ab):Prop where
 obj:h.get? x=some (PySem.W.instObj C dx)
 ns:h.Ns1 dx mA
 ne:dx≠x
theorem Qk {h:Heap} {dx:Ac} {mA:Str→Option Ab} (n:h.Ns1 dx mA):∃ od,h.get? dx=some od∧∀ name,PySem.W.lookIn name od=some (mA name):=by
 obtain ⟨o,es,ep,ho,hd,hk,_,hm⟩:=n;refine ⟨o,ho,fun name=>?_⟩;have e:=hm name;unfold nsFind findBy at e;rw [← Array.find?_toList] at e;unfold PySem.W.lookIn;rw [hd];dsimp only;split
 ·rename_i y q;rw [q] at e;exact congrArg some e
 ·rename_i q;rw [q] at e;have a:es.toList.any (·.refKey)=false:=by
   rw [List.any_eq_false];intro y hy;obtain ⟨z,t,hkey⟩:=hk y (Array.mem_toList_iff.mp hy);simp [DictEntry.refKey,hkey]
  have a':¬ es.toList.any (·.refKey)=true:=by rw [a];exact Ak
  rw [if_neg a'];exact congrArg some e
theorem ObjM.look {h:Heap} {x dx C:Ac} {mA:Str→Option Ab} (I:ObjM h x dx C mA):∃ od,PySem.W.InstAt h x (PySem.W.instObj C dx) C (some od)∧∀ name,PySem.W.lookIn name od=some (mA name):=
 let ⟨od,ho,hl⟩:=Qk I.ns
 ⟨od,⟨I.obj,rfl,rfl,ho⟩,hl⟩
section
variable {prog:Program} {w:World} {A:Around} {E:Ab→Ae→Prop} {s:Ae} {K:Frag} {x dx C f:Ac} {mA:Str→Option Ab} {name:Str} {v:Ab}
theorem qdx {expr:Bool} {Q:Ab→Ae→Prop} (X:K.In s.heap) (I:ObjM s.heap x dx C mA) (hg:PySem.W.plainGet K C name=true) (hh:PySem.W.hasDictIn K C=true)
  (ha:PySem.W.findIn K (.ref C) name=some none) (hv:mA name=some v) (hv':PySem.W.handedIn v=true) (h:Q v {s with toks:=s.toks+1}):
  wpAny (model prog w) A (getAttr (.ref x) name expr) Q E s:=by
 obtain ⟨od,J,hl⟩:=I.look;exact PySem.W.get_value X J (PySem.W.plainGet_of hg).1 (PySem.W.findObj_own hh ha rfl (by rw [hl,hv])) hv' h
theorem qbj {pl:Sem Bool} {Q:Ab×List Ab→Ae→Prop} (X:K.In s.heap) (I:ObjM s.heap x dx C mA) (hg:PySem.W.plainGet K C name=true)
  (hf:PySem.W.findIn K (.ref C) name=some (some (.ref f))) (ht:PySem.W.isFn K (.ref f)=true) (hv:mA name=none) (h:Q (.ref f,[.ref x]) s):
  wpAny (model prog w) A (getMethod (.ref x) name pl) Q E s:=by
 obtain ⟨od,J,hl⟩:=I.look;exact PySem.W.method_fn X J (PySem.W.plainGet_of hg).1 (PySem.W.plainGet_of hg).2 hf (Bd.mp ht) (by show (PySem.W.lookIn name od).map (·.isSome)=some false;rw [hl,hv];rfl) h
theorem qcx {ns:List Str} {Q:Unit→Ae→Prop} (X:K.In s.heap) (I:ObjM s.heap x dx C mA)
  (hs:PySem.W.findIn K (.ref C) "__setattr__"=some (some (.builtin "object.__setattr__"))) (hp:PySem.W.plainOver K C=true) (ht:PySem.W.takerIn K C name=some none) (hh:PySem.W.hasDictIn K C=true)
  (hw:PySem.Within mA ns) (hsz:ns.length≤Af)
  (h:∀ h',ObjM h' x dx C (fun y=>if y=name then some v else mA y)→Heap.SameBut dx s.heap h'→Q () {s with heap:=h',toks:=s.toks+2}):
  wpAny (model prog w) A (setAttr (.ref x) name v) Q E s:=by
 obtain ⟨od,J,hl⟩:=I.look;refine PySem.W.set_plain X J hs (PySem.W.osa_open (s:={s with toks:=s.toks+1}) (r:=none) X J hp ht fun b=>?_)
 obtain ⟨cd,hc,hd'⟩:=PySem.W.any_some hh;have hx:s.heap.get? x=some ⟨.ref C,some dx,.plain,#[]⟩:=I.obj;refine Ai (A1 (Ai (Ai (wpAny_loadPart hx (Ai (PySem.W.Looks.here (s:={s with toks:=s.toks+1}) (PySem.W.looks_clsIn X hc) ?_))))))
 rw [hd'];refine A1 (a:=some dx) (Ai (A1 (Ai ?_)));refine wpAny_nsSet1 (s:={s with toks:=s.toks+1}) I.ns fun h' hn2 hs2=>?_
 obtain ⟨oD,esD,epD,hoD,hdD,hcD⟩:=hn2.count (PySem.Within.cons name v hw);refine Ai (wpAny_lookBehind hoD (by rw [hdD];exact pastItsLine_dict (As hcD (by rw [Bj];omega))) ?_)
 exact A1 (h _ ⟨(hs2.2 _ (Ne.symm I.ne)).trans I.obj,hn2,I.ne⟩ hs2)
theorem qa6 {R:Result→Ae→Prop} {vs:List Ab} {kw:List (Str×Ab)} (X:K.In s.heap) (hm:PySem.W.makesIn K C=true)
  (hi:PySem.W.findIn K (.ref C) "__init__"=some (some (.ref f))) (hf:PySem.W.typeIn K (.ref f)=some (.type "function"))
  (h:codeAny (model prog w) (A.under (.builtin "type.__call__" ⟨.ref C::vs,kw⟩)) (.call (.ref f) ⟨.ref (s.heap.objs.size+1)::vs,kw⟩) (PySem.W.InitBack (s.heap.objs.size+1) R)
   {s with heap:=(s.heap.push PySem.W.emptyDict).push (PySem.W.instObj C s.heap.objs.size)}):
  codeAny (model prog w) A (.call (.ref C) ⟨vs,kw⟩) R s:=by
 obtain ⟨hh,g,d,t,os⟩:=s;exact PySem.W.make_core (PySem.W.makes_of X hm) (PySem.W.looks_findIn X hi) (fun self=>PySem.W.bind_fn X self hf) (.inl rfl) h
end
def zN (f:Str) (v:V):List (Str×V)→List (Str×V)
 | []=>[(f,v)]
 | (g,x)::r=>if g=f then (g,v)::r else (g,x)::zN f v r
theorem wj (f g:Str) (v:V):∀ fs:List (Str×V),(zN f v fs).lookup g=if g=f then some v else fs.lookup g
 | []=>by
  show List.lookup g [(f,v)]=_
  by_cases h:g=f
  ·have hb:(g==f)=true:=Bd.mpr h;simp only [List.lookup,hb,if_pos h]
  ·have hb:(g==f)=false:=Bv.mpr h;simp only [List.lookup,hb,if_neg h]
 | (k,x)::r=>by
  have ih:=wj f g v r;rw [show zN f v ((k,x)::r)=(if k=f then (k,v)::r else (k,x)::zN f v r) from rfl]
  by_cases hk:k=f
  ·rw [if_pos hk]
   by_cases h:g=k
   ·have hb:(g==k)=true:=Bd.mpr h;simp only [List.lookup,hb,if_pos (h.trans hk)]
   ·have hb:(g==k)=false:=Bv.mpr h;simp only [List.lookup,hb,if_neg (fun e:g=f=>h (e.trans hk.symm))]
  ·rw [if_neg hk]
   by_cases h:g=k
   ·have hb:(g==k)=true:=Bd.mpr h;simp only [List.lookup,hb,if_neg (fun e:g=f=>hk (h.symm.trans e))]
   ·have hb:(g==k)=false:=Bv.mpr h;simp only [List.lookup,hb];exact ih
theorem V4 (f:Str) (v:V):∀ fs:List (Str×V),f∈(zN f v fs).map (·.1)∧∀ g,g∈fs.map (·.1)→g∈(zN f v fs).map (·.1)
 | []=>⟨by simp [zN],fun g h=>by simp at h⟩
 | (k,x)::r=>by
  obtain ⟨i1,i2⟩:=V4 f v r;rw [show zN f v ((k,x)::r)=(if k=f then (k,v)::r else (k,x)::zN f v r) from rfl]
  by_cases hk:k=f
  ·rw [if_pos hk];subst hk;exact ⟨by simp,fun g h=>by simpa using h⟩
  ·rw [if_neg hk];refine ⟨?_,fun g h=>?_⟩
   ·rw [Bb];exact Bg _ i1
   ·rw [Bb] at h ⊢;rcases Av.mp h with e | e
    ·exact Av.mpr (.inl e)
    ·exact Bg _ (i2 g e)
theorem wm (f:Str) (v:V):∀ fs:List (Str×V),(zN f v fs).length≤fs.length+1
 | []=>by simp [zN]
 | (k,x)::r=>by
  have ih:=wm f v r;rw [show zN f v ((k,x)::r)=(if k=f then (k,v)::r else (k,x)::zN f v r) from rfl]
  by_cases hk:k=f
  ·rw [if_pos hk,Bj,Bj];omega
  ·rw [if_neg hk,Bj,Bj];omega
theorem vy.some_of {v:V} {o:Option Ab} (r:vy (some v) o):∃ u,o=some u∧qz v u:=by
 cases o with
 | none=>exact (show False from r).elim
 | some u=>exact ⟨u,rfl,r⟩
theorem vy.none_of {o:Option Ab} (r:vy none o):o=none:=by
 cases o with
 | none=>rfl
 | some u=>exact (show False from r).elim
theorem Qo {v:V} {u:Ab} (r:qz v u):PySem.W.handedIn u=true:=by
 cases v with
 | non=>cases (show u=Value.none from r);rfl
 | bl b=>cases (show u=Value.bool b from r);rfl
 | int i=>obtain ⟨t,e⟩:=(show ∃ t,u=Value.int i t from r);cases e;rfl
 | str x=>obtain ⟨t,e⟩:=(show ∃ t,u=Value.str x t from r);cases e;rfl
 | byt b=>obtain ⟨t,e⟩:=(show ∃ t,u=Value.bytes b t from r);cases e;rfl
 | flt b=>obtain ⟨t,e⟩:=(show ∃ t,u=Value.float b t from r);cases e;rfl
 | ref a=>cases (show u=Value.ref a from r);rfl
 | ty n=>cases (show u=Value.type n from r);rfl
section
variable {P:Program} {w:World} {H H':Hp} {h h':Heap} {a C dx:Ac} {fs fs':List (Str×V)}
theorem wJ (hok:HOk P w H h) (e:H a=some (.ins C dx fs)):∃ mA,ObjM h a dx C mA∧(∀ f,vy (fs.lookup f) (mA f))∧PySem.Within mA (fs.map (·.1))∧fs.length≤1000∧H dx=some (.own a):=by
 obtain ⟨d,z,ne,ob,mA,n,r,q⟩:=(show zt P w H h a (.ins C dx fs) from hok a _ e);exact ⟨mA,⟨ob,n,ne⟩,r,q,z,d⟩
end
structure Cls (K:Frag) (C:Ac):Prop where
 pg:PySem.W.plainGet K C Str.empty=true
 hd:PySem.W.hasDictIn K C=true
 po:PySem.W.plainOver K C=true
 sa:PySem.W.findIn K (.ref C) "__setattr__"=some (some (.builtin "object.__setattr__"))
theorem Cls.get {K:Frag} {C:Ac} (c:Cls K C) (f:Str):PySem.W.plainGet K C f=true:=c.pg
def Vp (K:Frag) (C:Ac) (f:Str):Prop:=PySem.W.findIn K (.ref C) f=some none
theorem Vp.taker {K:Frag} {C:Ac} {f:Str} (n:Vp K C f):PySem.W.takerIn K C f=some none:=by
 unfold PySem.W.takerIn;rw [show PySem.W.findIn K (.ref C) f=some none from n];rfl
structure Meth (K:Frag) (C:Ac) (m:Str) (f:Ac):Prop where
 at_:PySem.W.findIn K (.ref C) m=some (some (.ref f))
 fn:PySem.W.isFn K (.ref f)=true
 kp:PySem.W.keepIn K (.ref f)=true
section
variable {X:Cx} {pins:List (Ac×Obj)} {σ:St} {H:Hp} {s:Ae} {a C dx:Ac} {fs:List (Str×V)} {f:Str} {v:V} {A:Around} {E:Ab→Ae→Prop}
theorem Ws {b:Bool} {Q:Ab→Ae→Prop} (I:Inv X pins σ H s) (e:H a=some (.ins C dx fs)) (c:Cls X.K C) (n:Vp X.K C f) (l:fs.lookup f=some v)
  (h:∀ u s',Inv X pins σ H s'→qz v u→Q u s'):wpAny (model X.prog X.w) A (getAttr (.ref a) f b) Q E s:=by
 obtain ⟨mA,O,r,_,_,_⟩:=wJ I.hok e;obtain ⟨u,hu,ru⟩:=vy.some_of (v:=v) (o:=mA f) (by rw [← l];exact r f)
 exact qdx I.kIn O (c.get f) c.hd n hu (Qo ru) (h u _ (I.tok _) ru)
theorem XS {m:Str} {g:Ac} {pl:Sem Bool} {Q:Ab×List Ab→Ae→Prop} (I:Inv X pins σ H s) (e:H a=some (.ins C dx fs)) (c:Cls X.K C) (k:Meth X.K C m g) (l:fs.lookup m=none)
  (h:Q (.ref g,[.ref a]) s):wpAny (model X.prog X.w) A (getMethod (.ref a) m pl) Q E s:=by
 obtain ⟨mA,O,r,_,_,_⟩:=wJ I.hok e;have hn:mA m=none:=vy.none_of (by rw [← l];exact r m)
 exact qbj I.kIn O (c.get m) k.at_ k.fn hn h
theorem wT {y:V} {u:Ab} {Q:Unit→Ae→Prop} (I:Inv X pins σ H s) (e:H a=some (.ins C dx fs)) (c:Cls X.K C) (n:Vp X.K C f) (hl:fs.length<1000) (ry:qz y u)
  (h:∀ s',Inv X pins σ (upd H a (.ins C dx (zN f y fs))) s'→Q () s'):wpAny (model X.prog X.w) A (setAttr (.ref a) f u) Q E s:=by
 obtain ⟨mA,O,r,wi,_,ho⟩:=wJ I.hok e;have hz:(fs.map (·.1)).length≤Af:=by rw [Aj,sizeLine_eq];omega
 refine qcx I.kIn O c.sa c.po n.taker c.hd wi hz fun h' O' sb=>h _ ?_;have hd:∃ o,h'.get? dx=some o:=let ⟨o,_,_,e',_⟩:=O'.ns;⟨o,e'⟩;refine I.write (x:=a) (e:=dx) (by rw [e];exact True.intro) (.inr ho) (fun b q hb z=>(sb.2 b hb).trans z) hd ?_
 refine ⟨by rw [qo O.ne];exact ho,?_,O.ne,O'.obj,_,O'.ns,fun g=>?_,fun g hg=>?_⟩
 ·have:=wm f y fs;omega
 ·show vy ((zN f y fs).lookup g) (if g=f then some u else mA g)
  rw [wj]
  by_cases q:g=f
  ·rw [if_pos q,if_pos q];exact ry
  ·rw [if_neg q,if_neg q];exact r g
 ·by_cases q:g=f
  ·rw [q];exact (V4 f y fs).1
  ·refine (V4 f y fs).2 g (wi g fun z=>hg ?_);show (if g=f then some u else mA g)=none
   rw [if_neg q];exact z
theorem Inv.made (I:Inv X pins σ H s):Inv X pins σ (upd (upd H s.heap.objs.size (.own (s.heap.objs.size+1))) (s.heap.objs.size+1) (.ins C s.heap.objs.size []))
  {s with heap:=(s.heap.push PySem.W.emptyDict).push (PySem.W.instObj C s.heap.objs.size)}:=by
 have e1:(s.heap.push PySem.W.emptyDict).get? s.heap.objs.size=some PySem.W.emptyDict:=Bc s.heap rfl;have e2:((s.heap.push PySem.W.emptyDict).push (PySem.W.instObj C s.heap.objs.size)).get? (s.heap.objs.size+1)=some (PySem.W.instObj C s.heap.objs.size):=by
  have:=Bc (s.heap.push PySem.W.emptyDict) (o:=PySem.W.instObj C s.heap.objs.size) rfl
  rwa [C2] at this
 have e3:(s.heap.push PySem.W.emptyDict).Ns s.heap.objs.size (fun _=>none):=⟨PySem.W.emptyDict,#[],_,e1,rfl,(fun e he=>absurd he (by simp)),fun _=>rfl⟩
 have I1:=I.laid (a:=s.heap.objs.size) (o:= .own (s.heap.objs.size+1)) (h':=s.heap.push PySem.W.emptyDict) (t':=s.toks) (fun b u q=>Ar _ q) (An _) ⟨_,e1⟩;refine I1.laid (a:=s.heap.objs.size+1) (o:= .ins C s.heap.objs.size []) (t':=s.toks) (fun b u q=>Ar _ q) (Nat.le_of_eq (C2 _ _)) ?_;have ne:s.heap.objs.size≠s.heap.objs.size+1:=B1 (D8 _);refine ⟨by rw [qo ne,upd_same],C6 _,ne,e2,fun _=>none,(Heap.Ns1.of_empty e3).at fun o q=>Ar _ q,fun _=>True.intro,fun y hy=>absurd rfl hy⟩
theorem qeh {prog:Program} {w:World} {env:Env} {e:Expr} {f:Str} {pos:Pos} {s:Ae} {Q:Ab→Ae→Prop} (hb:attributeBase e f env (eval e env)=eval e env)
  (h:wpAny (model prog w) A (eval e env) (fun o s₁=>wpAny (model prog w) A (getAttr o f true) Q E s₁) E s):wpAny (model prog w) A (eval (.Attribute e f pos) env) Q E s:=
 Attribute_any_ h (by rw [arm_eval_Attribute,hb])
end
def qhj (K:Frag) (ta:TE) (f:Str):TE:=fun σ H Q=>ta σ H fun x H1=>∃ a C dx fs v,x= .ref a∧H1 a=some (.ins C dx fs)∧Cls K C∧Vp K C f∧fs.lookup f=some v∧Q v H1
def sFld (K:Frag) (ta tv:TE) (f:Str):TS:=fun D σ H=>tv σ H fun y H1=>ta σ H1 fun x H2=>∃ a C dx fs,x= .ref a∧H2 a=some (.ins C dx fs)∧Cls K C∧Vp K C f∧fs.length<1000∧
 D.nx σ (upd H2 a (.ins C dx (zN f y fs)))
def qjb (X:Cx) (op:Operator) (rd:V→V→Hp→VK→Prop):Prop:=
 ∀ (pins:List (Ac×Obj)) (s:Ae) (σ:St) (H:Hp) (x y:V) (u v:Ab) (Q:VK),Inv X pins σ H s→qz x u→qz y v→rd x y H Q→wpAny (model X.prog X.w) X.A (inplaceOp op u v) (EP X pins σ Q) X.xe s
def qcy (K:Frag) (ta tv:TE) (rd:V→V→Hp→VK→Prop) (f:Str):TS:=fun D σ H=>ta σ H fun x H1=>∃ a C dx fs v,x= .ref a∧H1 a=some (.ins C dx fs)∧Cls K C∧Vp K C f∧fs.lookup f=some v∧
 tv σ H1 fun y H2=>rd v y H2 fun z H3=>∃ dx' fs',H3 a=some (.ins C dx' fs')∧fs'.length<1000∧D.nx σ (upd H3 a (.ins C dx' (zN f z fs')))
section
variable {X:Cx} {o e value:Expr} {f:Str} {pos pos' tpos:Pos} {ta tv:TE}
theorem VW (he:PE X e ta) (hb:attributeBase e f X.env (eval e X.env)=eval e X.env):PE X (.Attribute e f pos) (qhj X.K ta f):=by
 intro pins s σ H Q I h;refine qeh hb (thn (he pins s σ H _ I h) fun u s1 ⟨x,H1,I1,rx,a,C,dx,fs,v,ex,ea,c,n,l,q⟩=>?_);subst ex;obtain rfl:u=Value.ref a:=rx;exact Ws I1 ea c n l fun u' s2 I2 ru=>⟨v,H1,I2,ru,q⟩
theorem Xx (ha:PE X o ta) (hv:PE X value tv) (hs:swapsWith value (some (.Attribute o f pos')) pos.line X.env=pure false):PS X (.Assign [.Attribute o f pos'] value pos) (sFld X.K ta tv f):=by
 intro pins s σ H D I h;refine plainObj_wpAny_Assign_Attribute (thn (hv pins s σ H _ I h) fun u s1 ⟨y,H1,I1,ry,q⟩=>thn (ha pins s1 σ H1 _ I1 q) fun ov s2 ⟨x,H2,I2,rx,a,C,dx,fs,ex,ea,c,n,l,q2⟩=>?_) hs;subst ex;obtain rfl:ov=Value.ref a:=rx;exact wT I2 ea c n l ry fun s3 I3=>⟨σ,_,I3,q2⟩
theorem W4 {op:Operator} {rd:V→V→Hp→VK→Prop} (ha:PE X o ta) (hv:PE X value tv) (hop:qjb X op rd):PS X (.AugAssign (.Attribute o f tpos) op value pos) (qcy X.K ta tv rd f):=by
 intro pins s σ H D I h;refine wpAny_AugAssign_AttributeAny (thn (ha pins s σ H _ I h) fun ov s1 ⟨x,H1,I1,rx,a,C,dx,fs,v,ex,ea,c,n,l,q⟩=>?_);subst ex;obtain rfl:ov=Value.ref a:=rx;refine Ws I1 ea c n l fun u s2 I2 ru=>thn (hv pins s2 σ H1 _ I2 q) fun w3 s3 ⟨y,H2,I3,ry,q3⟩=>thn (hop pins s3 σ H2 v y u w3 _ I3 ru ry q3) fun w4 s4 ⟨z,H3,I4,rz,dx',fs',ea',l',q4⟩=>?_;exact wT I4 ea' c n l' rz fun s5 I5=>⟨σ,_,I5,q4⟩
end
section
variable {X:Cx} {pins:List (Ac×Obj)} {σ:St} {H:Hp} {s:Ae} {A:Around} {E:Ab→Ae→Prop} {Q:Ab→Ae→Prop} {c:Ab} {b:Bool}
inductive TyOf (K:Frag) (H:Hp):V→Ab→Prop where
 | non:TyOf K H .non (.type "NoneType")
 | bl (x:Bool):TyOf K H (.bl x) (.type "bool")
 | int (i:Int):TyOf K H (.int i) (.type "int")
 | str (x:Str):TyOf K H (.str x) (.type "str")
 | flt (x:UInt64):TyOf K H (.flt x) (.type "float")
 | lst {a:Ac} {xs:List V} (e:H a=some (.lst xs)):TyOf K H (.ref a) (.type "list")
 | frz {a:Ac} {o:Obj} {xs:List V} (e:H a=some (.frz o (.lst xs))):TyOf K H (.ref a) (.type "list")
 | tup {a:Ac} {xs:List V} (e:H a=some (.tup xs)):TyOf K H (.ref a) (.type "tuple")
 | dK {a:Ac} {kvs:List (Key×V)} (e:H a=some (.dK kvs)):TyOf K H (.ref a) (.type "dict")
 | dT {a:Ac} {kvs:List (List Key×V)} (e:H a=some (.dT kvs)):TyOf K H (.ref a) (.type "dict")
 | ins {a C dx:Ac} {fs:List (Str×V)} (e:H a=some (.ins C dx fs)) (cl:Cls K C) (ha:PySem.W.findIn K (.ref C) "__class__"=some (some (.builtin "object.__class__")))
   (hn:PySem.W.specialIn K (.builtin "object.__class__") "__get__"=some (some (.builtin "getset_descriptor.__get__"))) (htk:PySem.W.takesIn K (.builtin "object.__class__")=some true)
   (hm:PySem.W.mroIn K C (.type "object")=some true):TyOf K H (.ref a) (.ref C)
theorem vY {x:V} {u t:Ab} (I:Inv X pins σ H s) (rx:qz x u) (ty:TyOf X.K H x t) (e:PySem.W.kitOne X.K t c=some b) (h:∀ tk,Q (.bool b) {s with toks:=tk}):
  wpAny (model X.prog X.w) A (call (.builtin "isinstance") [u,c]) Q E s:=by
 cases ty with
 | non=>cases (show u=Value.none from rx);exact B8 PySem.W.kitx_none I.kIn True.intro e (fun z=>nomatch z) h
 | bl y=>cases (show u=Value.bool y from rx);exact B8 PySem.W.kitx_bool I.kIn True.intro e (fun z=>nomatch z) h
 | int i=>obtain ⟨t,q⟩:=(show ∃ t,u=Value.int i t from rx);cases q;exact B8 PySem.W.kitx_int I.kIn True.intro e (fun z=>nomatch z) h
 | str y=>obtain ⟨t,q⟩:=(show ∃ t,u=Value.str y t from rx);cases q;exact B8 PySem.W.kitx_str I.kIn True.intro e (fun z=>nomatch z) h
 | flt y=>obtain ⟨t,q⟩:=(show ∃ t,u=Value.float y t from rx);cases q;exact B8 PySem.W.kitx_float I.kIn True.intro e (fun z=>nomatch z) h
 | @lst a xs ea=>
  cases (show u=Value.ref a from rx);obtain ⟨_,_,n,_,h1⟩:=(show zt X.prog X.w H s.heap a (.lst xs) from I.hok a _ ea);exact B8 PySem.W.kitx_list I.kIn ⟨_,h1,rfl⟩ e (fun z=>nomatch z) h
 | @frz a ob xs ea=>
  cases (show u=Value.ref a from rx);obtain ⟨_,_,_,n,_,h1⟩:=(show zt X.prog X.w H s.heap a (.frz ob (.lst xs)) from I.hok a _ ea);exact B8 PySem.W.kitx_list I.kIn ⟨_,h1,rfl⟩ e (fun z=>nomatch z) h
 | @tup a xs ea=>
  cases (show u=Value.ref a from rx);obtain ⟨_,_,_,p⟩:=(show zt X.prog X.w H s.heap a (.tup xs) from I.hok a _ ea);obtain ⟨o,h1,h2,_⟩:=p;exact B8 PySem.W.kitx_tuple I.kIn ⟨o,h1,h2⟩ e (fun z=>nomatch z) h
 | @dK a kvs ea=>
  cases (show u=Value.ref a from rx);obtain ⟨_,_,vs,_,p⟩:=(show zt X.prog X.w H s.heap a (.dK kvs) from I.hok a _ ea);obtain ⟨o,es,ep,h1,h2,_⟩:=p;exact B8 PySem.W.kitx_dict I.kIn ⟨o,h1,h2.1⟩ e (fun z=>nomatch z) h
 | @dT a kvs ea=>
  cases (show u=Value.ref a from rx);obtain ⟨_,_,xs,_,o,es,ep,h1,h2,_⟩:=(show zt X.prog X.w H s.heap a (.dT kvs) from I.hok a _ ea);exact B8 PySem.W.kitx_dict I.kIn ⟨o,h1,h2.1⟩ e (fun z=>nomatch z) h
 | @ins a C dx fs ea cl ha hn htk hm=>
  cases (show u=Value.ref a from rx);obtain ⟨mA,O,_⟩:=wJ I.hok ea;obtain ⟨od,J,_⟩:=O.look;exact B8 (PySem.W.kitx_own (cl.get _) cl.hd ha hn htk hm) I.kIn J e (fun z=>nomatch z) h
end
structure Room (k:Nat) (A:Around):Prop where
 hd:A.handled=none
 dp:A.depth+3*k+5<recursionLimit
 un:A.units+16*k+200<cLine
theorem Room.mono {j k:Nat} {A:Around} (r:Room k A) (h:j≤k):Room j A:=⟨r.hd,by have:=r.dp;omega,by have:=r.un;omega⟩
theorem Room.deeper {k:Nat} {A:Around} (r:Room (k+1) A) (env:Env):Room k (A.deeper env):=
 ⟨r.hd,by have:=r.dp;show A.depth+1+3*k+5<_;omega,by have:=r.un;show A.units+3+16*k+200<_;omega⟩
theorem XJ {A:Around} {C:Ac} {us:List Ab} {kw:List (Str×Ab)}:(A.under (.builtin "type.__call__" ⟨.ref C::us,kw⟩)).depth=A.depth+1:=by
 first | rfl | simp [Around.under,Code.weight,Code.isCreation,Code.isGuard,Code.isCaller,Code.frames,Code.isFrame,guardIds]
theorem XI {A:Around} {C:Ac} {us:List Ab} {kw:List (Str×Ab)}:(A.under (.builtin "type.__call__" ⟨.ref C::us,kw⟩)).units=A.units+1:=by
 first | rfl | simp [Around.under,Code.cUnits,Code.frames,Code.isFrame]
theorem Room.make {k:Nat} {A:Around} (r:Room (k+1) A) (C:Ac) (us:List Ab) (kw:List (Str×Ab)):Room k (A.under (.builtin "type.__call__" ⟨.ref C::us,kw⟩)):=
 ⟨r.hd,by have:=r.dp;rw [XJ];omega,by have:=r.un;rw [XI];omega⟩
theorem Room.depth {k:Nat} {A:Around} (r:Room k A):A.depth<recursionLimit:=by have:=r.dp;omega
theorem Room.units {k:Nat} {A:Around} (r:Room k A):A.units+64<cLine:=by have:=r.un;omega
def zu:TA:=fun _ H Q=>Q [] H
def qw (ta:TE) (tr:TA):TA:=fun σ H Q=>ta σ H fun x H1=>tr σ H1 fun xs H2=>Q (x::xs) H2
section
variable {X:Cx} {e:Expr} {es:List Expr} {te:TE} {t:TA} {pos:Pos}
theorem qb:PA X [] zu:=fun _ _ _ _ H Q I h=>Calls.spliced_nil ⟨[],H,I,.nil,h⟩
theorem qa (ha:PE X e te) (hr:PA X es t) (hs:starEach (e::es) X.env=(false,eval e X.env)::starEach es X.env:=by rfl):PA X (e::es) (qw te t):=by
 intro pos pins s σ H Q I h;rw [hs];show wpAny _ _ (spliced ((false,eval e X.env)::backTo pos (starEach es X.env))) _ _ s;refine Calls.spliced_cons (thn (ha pins s σ H _ I h) fun u s1 ⟨x,H1,I1,r1,q1⟩=>?_);exact thn (hr pos pins s1 σ H1 _ I1 q1) fun us s2 ⟨xs,H2,I2,r2,q2⟩=>⟨x::xs,H2,I2,.cons r1 r2,q2⟩
def VL (t:TA):TE:=fun σ H Q=>t σ H fun xs H1=>xs.length≤Af∧∀ p,H1 p=none→Q (.ref p) (upd H1 p (.tup xs))
def v0 (t:TA):TE:=fun σ H Q=>t σ H fun xs H1=>xs.length≤Af∧∀ p,H1 p=none→Q (.ref p) (upd H1 p (.lst xs))
theorem qi {x1} (h:PA X es t):PE X (.Tuple es x1 pos) (VL t):=by
 intro pins s σ H Q I hq;refine wpAny_Tuple_spliced (thn (h pos pins s σ H _ I hq) fun us s1 ⟨xs,H1,I1,r,z,q⟩=>⟨by rw [← r.length];exact z,?_⟩)
 have hf:H1 s1.heap.objs.size=none:=I1.hok.fresh (An _);refine ⟨.ref s1.heap.objs.size,upd H1 s1.heap.objs.size (.tup xs),I1.laid (t':=s1.toks) (fun b u e=>Ar _ e) (An _) ?_,rfl,q _ hf⟩;exact ⟨z,us,r,⟨_,Bc _ rfl,rfl,_,rfl⟩⟩
theorem qT (h:PA X es t):PE X (.List es pos) (v0 t):=by
 intro pins s σ H Q I hq;refine wpAny_List_spliced (thn (h pos pins s σ H _ I hq) fun us s1 ⟨xs,H1,I1,r,z,q⟩=>⟨by rw [← r.length];exact z,?_⟩)
 have hf:H1 s1.heap.objs.size=none:=I1.hok.fresh (An _);refine ⟨.ref s1.heap.objs.size,upd H1 s1.heap.objs.size (.lst xs),I1.laid (t':=s1.toks) (fun b u e=>Ar _ e) (An _) ?_,rfl,q _ hf⟩;exact ⟨z,us,0,r,Bc _ rfl⟩
end
abbrev Sp:=List V→Hp→VK→XK→Prop
abbrev CXT:=List Env→Hp→Ae→XK→Ab→Ae→Prop
structure Env0 (P:Program) (w:World) (K:Frag) (mg:Str→Option Ab) (base:Heap) (A:Around) (outer:List Env) (s:Ae) (H:Hp):Prop where
 frames:A.frames=some outer
 mod:Mod K mg base
 bs:∀ b o,base.get? b=some o→s.heap.get? b=some o∧H b=none
 bsz:base.objs.size≤s.heap.objs.size
 funs:s.heap.FunFrames base outer
 frf:∀ b∈frs outer,H b=none
 hok:HOk P w H s.heap
 bare:AllBare s.gens
def CE (outer:List Env) (P:Program) (w:World) (H:Hp) (s:Ae) (Q:VK) (u:Ab) (s':Ae):Prop:=
 ∃ v H',s'.os=s.os∧AllBare s'.gens∧Un (frs outer) [] H H' s.heap s'.heap∧HOk P w H' s'.heap∧qz v u∧Q v H'
def CR (CX:CXT) (outer:List Env) (P:Program) (w:World) (H:Hp) (s:Ae) (Q:VK) (E:XK) (r:Result) (s':Ae):Prop:=
 match r with
 | .ok (.ret u)=>CE outer P w H s Q u s'
 | .ok _=>False
 | .error e=>CX outer H s E e s'
structure FnOk (P:Program) (w:World) (K:Frag) (mg:Str→Option Ab) (base:Heap) (CX:CXT) (k:Nat) (f:Ac) (fd:FuncData) (ps:List Str) (sp:Sp):Prop where
 len:∀ vs H Q E,sp vs H Q E→vs.length=ps.length
 run:∀ (A:Around) (outer:List Env) (s:Ae) (H:Hp) (args:Args) (us:List Ab) (vs:List V) (Q:VK) (E:XK),Room k A→Env0 P w K mg base A outer s H→BindsTo s fd args (ps.zip us)→qK vs us→sp vs H Q E→
  codeAny (model P w) A (.call (.ref f) args) (CR CX outer P w H s Q E) s
theorem Env0.make {P:Program} {w:World} {K:Frag} {mg:Str→Option Ab} {base:Heap} {A:Around} {outer:List Env} {s:Ae} {H:Hp} (e:Env0 P w K mg base A outer s H) (C:Ac) (us:List Ab) (kw:List (Str×Ab)):
  Env0 P w K mg base (A.under (.builtin "type.__call__" ⟨.ref C::us,kw⟩)) outer s H:=⟨by first | exact e.frames | (simpa [Around.under,Code.envs,Code.isFrame,pushEnvs] using e.frames),e.mod,e.bs,e.bsz,e.funs,e.frf,e.hok,e.bare⟩
section
variable {X:Cx} {pins:List (Ac×Obj)} {σ:St} {H:Hp} {s s':Ae}
theorem Inv.env0 (I:Inv X pins σ H s):Env0 X.prog X.w X.K X.mg X.base X.A X.stack s H:=
 ⟨I.ok.frames,I.ok.mod,I.bs,As I.ok.bsz I.sz,I.stack,I.stkFree,I.hok,I.bare⟩
theorem Inv.after {Q:VK} {u:Ab} (I:Inv X pins σ H s) (h:CE X.stack X.prog X.w H s Q u s'):EP X pins σ Q u s':=by
 obtain ⟨v,H',os,bare,un,hok,r,q⟩:=h;obtain ⟨hh,g,d,t,os'⟩:=s';obtain rfl:os'=s.os:=os;exact ⟨v,H',I.call (h':=hh) (g':=g) (d':=d) (t':=t) (ch:=[]) un hok bare (fun b z=>absurd z (by simp)),r,q⟩
end
def jA (sp:Sp) (dvs:List V) (E:XK) (t:TA):TE:=fun σ H Q=>t σ H fun vs H1=>sp (vs++dvs) H1 Q E
def qer (C:Ac) (m:Str) (sp:Sp) (dvs:List V) (E:XK) (ta:TE) (t:TA):TE:=fun σ H Q=>ta σ H fun x H1=>∃ a dx fs,x= .ref a∧H1 a=some (.ins C dx fs)∧fs.lookup m=none∧
 t σ H1 fun vs H2=>sp (x::(vs++dvs)) H2 Q E
def QU (C:Ac) (sp:Sp) (dvs:List V) (E:XK) (t:TA):TE:=fun σ H Q=>t σ H fun vs H1=>∀ x dx,H1 x=none→H1 dx=none→dx≠x→
 sp (.ref x::(vs++dvs)) (upd (upd H1 dx (.own x)) x (.ins C dx [])) (fun v H2=>v= .non∧Q (.ref x) H2) E
def Jv (K:Frag) (fd:FuncData) (ps:List Str) (ds:List Ab):Prop:=
 ∀ (s:Ae) (us:List Ab),K.In s.heap→(us++ds).length=ps.length→BindsTo s fd ⟨us,[]⟩ (ps.zip (us++ds))
theorem Jv.all {K:Frag} {fd:FuncData} {ps:List Str} (h:∀ us:List Ab,us.length=ps.length→bindArgs fd ⟨us,[]⟩=pure (ps.zip us)):Jv K fd ps []:=fun s us _ hl=>by
 rw [Cj] at hl ⊢;exact .of_eq (h us hl)
def wd (CX:CXT) (X:Cx) (E:XK):Prop:=∀ (pins:List (Ac×Obj)) (σ:St) (H:Hp) (s:Ae) (e:Ab) (s':Ae),Inv X pins σ H s→CX X.stack H s E e s'→X.xe e s'
section
variable {X:Cx} {CX:CXT} {k:Nat} {f C:Ac} {fd:FuncData} {ps:List Str} {sp:Sp} {dvs:List V} {ds:List Ab} {E:XK} {x m:Str} {p pos apos:Pos} {e o:Expr} {es:List Expr} {ta:TE} {t:TA}
theorem Q9 {pins:List (Ac×Obj)} {σ:St} {H:Hp} {s:Ae} {Q:VK} {us:List Ab} {vs:List V} (F:FnOk X.prog X.w X.K X.mg X.base CX k f fd ps sp) (hr:Room k X.A) (hb:Jv X.K fd ps ds) (hd:qK dvs ds) (hx:wd CX X E)
  (I:Inv X pins σ H s) (r:qK vs us) (h:sp (vs++dvs) H Q E):wpAny (model X.prog X.w) X.A (call (.ref f) us) (EP X pins σ Q) X.xe s:=by
 have r2:qK (vs++dvs) (us++ds):=r.append hd;have hl:(us++ds).length=ps.length:=by rw [← r2.length];exact F.len _ _ _ _ h
 refine wpAny_call (codeAny_mono (F.run X.A X.stack s H ⟨us,[]⟩ (us++ds) (vs++dvs) Q E hr I.env0 (hb s us I.kIn hl) r2 h) fun r s' hq=>?_);cases r with
 | error e=>exact hx pins σ H s e s' I hq
 | ok fl=>
  cases fl with
  | ret u=>exact I.after hq
  | next=>exact False.elim hq
  | brk=>exact False.elim hq
  | cont=>exact False.elim hq
theorem qc5 (F:FnOk X.prog X.w X.K X.mg X.base CX k f fd ps sp) (hr:Room k X.A) (hg:Gl X x) (hm:X.mg x=some (.ref f)) (hk:PySem.W.keepIn X.K (.ref f)=true) (hb:Jv X.K fd ps ds) (hd:qK dvs ds) (hx:wd CX X E)
  (ha:PA X (e::es) t) (hdb:(x==("__debug__":Str))=false:=by decide) (he:starEach (e::es) X.env=(false,eval e X.env)::starEach es X.env:=by rfl) (hpl:(backTo pos (starEach es X.env)).any (·.1)=false:=by rfl):
  PE X (.Call (.Name x p) (e::es) [] pos) (jA sp dvs E t):=by
 intro pins s σ H Q I h;refine Ei (wI I hg hm ?_ hdb);refine PySem.W.callWith_K (h₀:=X.base) I.ok.mod.kin hk (thn (ha pos pins s σ H _ I h) fun us s1 ⟨vs,H1,I1,r,q⟩=>⟨I1.kIn,?_⟩) he hpl;exact Q9 F hr hb hd hx I1 r q
theorem qc2 {pl:Sem Bool} (he:PE X o ta) (c:Cls X.K C) (hm:Meth X.K C m f) (F:FnOk X.prog X.w X.K X.mg X.base CX k f fd ps sp) (hr:Room k X.A) (hb:Jv X.K fd ps ds) (hd:qK dvs ds) (hx:wd CX X E) (ha:PA X (e::es) t)
  (hst:starEach (e::es) X.env=(false,eval e X.env)::starEach es X.env:=by rfl) (hpl:(backTo pos (starEach es X.env)).any (·.1)=false:=by rfl)
  (ht:eval (.Call (.Attribute o m apos) (e::es) [] pos) X.env=(do
   let ov ← eval o X.env
   standAt apos.atName
   let (f,first) ← holding [ov] (getMethod ov m pl)
   callWith pos f first (backTo pos (starEach (e::es) X.env)) (backToKw pos (keywordEach [] X.env))):=by rfl):
  PE X (.Call (.Attribute o m apos) (e::es) [] pos) (qer C m sp dvs E ta t):=by
 intro pins s σ H Q I h;refine PySem.W.methodCall_KW (pl:=pl) (thn (he pins s σ H _ I h) fun u s1 ⟨x,H1,I1,rx,a,dx,fs,ex,ea,l,q⟩=>?_) ht;subst ex;obtain rfl:u=Value.ref a:=rx;refine XS I1 ea c hm l ?_;refine PySem.W.callWith_K (first:=[.ref a]) (h₀:=X.base) I.ok.mod.kin hm.kp (thn (ha pos pins s1 σ H1 _ I1 q) fun us s2 ⟨vs,H2,I2,r,q2⟩=>⟨I2.kIn,?_⟩) hst hpl
 exact Q9 (us:= .ref a::us) (vs:= .ref a::vs) F hr hb hd hx I2 (.cons rfl r) q2
structure Mk (K:Frag) (C f:Ac):Prop where
 makes:PySem.W.makesIn K C=true
 init:PySem.W.findIn K (.ref C) "__init__"=some (some (.ref f))
 fn:PySem.W.isFn K (.ref f)=true
 kp:PySem.W.keepIn K (.ref C)=true
theorem Q8 {pins:List (Ac×Obj)} {σ:St} {H:Hp} {s:Ae} {Q:VK} {us:List Ab} {vs:List V} (M:Mk X.K C f) (F:FnOk X.prog X.w X.K X.mg X.base CX k f fd ps sp) (hr:Room (k+1) X.A) (hb:Jv X.K fd ps ds) (hd:qK dvs ds)
  (hx:wd CX X E) (I:Inv X pins σ H s) (r:qK vs us)
  (h:∀ x dx,H x=none→H dx=none→dx≠x→sp (.ref x::(vs++dvs)) (upd (upd H dx (.own x)) x (.ins C dx [])) (fun v H2=>v= .non∧Q (.ref x) H2) E):
  wpAny (model X.prog X.w) X.A (call (.ref C) us) (EP X pins σ Q) X.xe s:=by
 have hq:=h (s.heap.objs.size+1) s.heap.objs.size (I.hok.fresh (Nat.le_succ _)) (I.hok.fresh (An _)) (B1 (D8 _));have I2:=Inv.made (C:=C) I;have r2:qK (V.ref (s.heap.objs.size+1)::(vs++dvs)) (Value.ref (s.heap.objs.size+1)::(us++ds)):= .cons rfl (r.append hd);have hl:(Value.ref (s.heap.objs.size+1)::us++ds).length=ps.length:=by
  have e:=r2.length;rw [F.len _ _ _ _ hq] at e;exact e.symm
 refine wpAny_call (qa6 (f:=f) I.kIn M.makes M.init (Bd.mp M.fn) (codeAny_mono (F.run _ X.stack _ _ ⟨Value.ref (s.heap.objs.size+1)::us,[]⟩ (Value.ref (s.heap.objs.size+1)::(us++ds)) _ _ E (hr.make C us [])
  (I2.env0.make C us []) (hb _ (Value.ref (s.heap.objs.size+1)::us) I2.kIn hl) r2 hq) fun r s' hq'=>?_))
 cases r with
 | error e=>exact hx pins σ _ _ e s' I2 hq'
 | ok fl=>
  cases fl with
  | ret u=>
   obtain ⟨v,H',I3,rv,ev,q3⟩:=I2.after hq';subst ev;exact ⟨rv,⟨V.ref (s.heap.objs.size+1),H',I3,rfl,q3⟩⟩
  | next=>exact False.elim hq'
  | brk=>exact False.elim hq'
  | cont=>exact False.elim hq'
theorem qc3 (M:Mk X.K C f) (F:FnOk X.prog X.w X.K X.mg X.base CX k f fd ps sp) (hr:Room (k+1) X.A) (hg:Gl X x) (hm:X.mg x=some (.ref C)) (hb:Jv X.K fd ps ds) (hd:qK dvs ds) (hx:wd CX X E)
  (ha:PA X (e::es) t) (hdb:(x==("__debug__":Str))=false:=by decide) (he:starEach (e::es) X.env=(false,eval e X.env)::starEach es X.env:=by rfl) (hpl:(backTo pos (starEach es X.env)).any (·.1)=false:=by rfl):
  PE X (.Call (.Name x p) (e::es) [] pos) (QU C sp dvs E t):=by
 intro pins s σ H Q I h;refine Ei (wI I hg hm ?_ hdb);refine PySem.W.callWith_K (h₀:=X.base) I.ok.mod.kin M.kp (thn (ha pos pins s σ H _ I h) fun us s1 ⟨vs,H1,I1,r,q⟩=>⟨I1.kIn,?_⟩) he hpl;exact Q8 M F hr hb hd hx I1 r q
end
section
variable {X:Cx} {CX:CXT} {k:Nat} {f C:Ac} {fd:FuncData} {ps ks:List Str} {sp:Sp} {E:XK} {x m:Str} {p pos apos kpos:Pos} {e o:Expr} {es:List Expr} {kws:List Keyword} {te ta:TE} {t tk:TA} {nm:Option Str}
variable {g:List Ab→List Ab→List Ab} {gV:List V→List V→List V}
end
structure FnScope (N P:List Str) (sc:Scope):Prop where
 kind:sc.kind= .function
 co:sc.isCoroutine=false
 gen:sc.isGenerator=false
 nd:N.Nodup
 pre:N.take P.length=P
 par:∀ x∈P,sc.names.lookup x=some .local∨sc.names.lookup x=some .cell
 nofree:∀ y∈sc.names,y.2≠ .free
theorem yq {kindOf:Str→Option NameKind} {x:Str}:∀ {binds:List (Str×Ab)} {m:Str→Option Ab},(∀ v,(x,v)∉binds)→bindL kindOf binds m x=m x
 | [],_,_=>rfl
 | (n,v)::r,m,h=>by
  unfold bindL;rw [yq fun w hw=>h w (Bg _ hw)];split
  ·have:x≠n:=by rintro rfl;exact h v Bi
   simp [this]
  ·rfl
theorem yt {kindOf:Str→Option NameKind} {x:Str}:∀ {binds:List (Str×Ab)} {m:Str→Option Ab},(∀ v,(x,v)∉binds)→bindC kindOf binds m x=m x
 | [],_,_=>rfl
 | (n,v)::r,m,h=>by
  unfold bindC;rw [yt fun w hw=>h w (Bg _ hw)];split
  ·rfl
  ·have:x≠n:=by rintro rfl;exact h v Bi
   simp [this]
theorem yr {kindOf:Str→Option NameKind} {x:Str} {v:Ab}:∀ {P:List Str} {vs:List Ab} {i:Nat} {m:Str→Option Ab},P.Nodup→P[i]?=some x→vs[i]?=some v→kindOf x=some .local→
  bindL kindOf (P.zip vs) m x=some v
 | [],_,_,_,_,h,_,_=>by simp at h
 | _::_,[],_,_,_,_,h,_=>by simp at h
 | p::P,w::vs,0,m,nd,h1,h2,hk=>by
  simp at h1 h2;subst h1;subst h2;show bindL kindOf ((p,w)::P.zip vs) m p=_;unfold bindL;rw [yq fun v hv=>(Ck.mp nd).1 (Eg hv).1,if_pos hk];simp
 | p::P,w::vs,i+1,m,nd,h1,h2,hk=>by
  show bindL kindOf ((p,w)::P.zip vs) m x=_;unfold bindL;exact yr (i:=i) (Ck.mp nd).2 (by simpa using h1) (by simpa using h2) hk
theorem yu {kindOf:Str→Option NameKind} {x:Str} {v:Ab}:∀ {P:List Str} {vs:List Ab} {i:Nat} {m:Str→Option Ab},P.Nodup→P[i]?=some x→vs[i]?=some v→kindOf x≠some .local→
  bindC kindOf (P.zip vs) m x=some v
 | [],_,_,_,_,h,_,_=>by simp at h
 | _::_,[],_,_,_,_,h,_=>by simp at h
 | p::P,w::vs,0,m,nd,h1,h2,hk=>by
  simp at h1 h2;subst h1;subst h2;show bindC kindOf ((p,w)::P.zip vs) m p=_;unfold bindC;rw [yt fun v hv=>(Ck.mp nd).1 (Eg hv).1,if_neg hk];simp
 | p::P,w::vs,i+1,m,nd,h1,h2,hk=>by
  show bindC kindOf ((p,w)::P.zip vs) m x=_;unfold bindC;exact yu (i:=i) (Ck.mp nd).2 (by simpa using h1) (by simpa using h2) hk
def Jz (N:List Str) (vs:List V):St:=vs.map some++List.replicate (N.length - vs.length) none
def WU (CX:CXT) (P:Program) (w:World) (K:Frag) (mg:Str→Option Ab) (base:Heap) (N:List Str) (qual:Str) (scope:Scope) (f:Ac) (cd:Ab) (A:Around) (outer:List Env) (s:Ae) (H:Hp) (E:XK):Cx where
 prog:=P
 w:=w
 K:=K
 mg:=mg
 base:=base
 A:=A.deeper (envOfC qual scope s.heap.objs.size f cd)
 N:=N
 s₀:=s
 H₀:=H
 env:=envOfC qual scope s.heap.objs.size f cd
 outer:=outer
 stack:=envOfC qual scope s.heap.objs.size f cd::outer
 ex:=[]
 calm:=true
 fn:=fun _=>true
 pn:=[]
 xe:=fun e s'=>wpAny (model P w) (A.deeper (envOfC qual scope s.heap.objs.size f cd)) (leaving (envOfC qual scope s.heap.objs.size f cd) e) (fun _ s''=>CX outer H s E e s'') (fun e' s''=>CX outer H s E e' s'') s'
theorem Xb {sc:Scope} {n:Nat} {x:Str} (h:sc.names.lookup x=some .cell):∃ c,(cellsFrom n sc.names []).lookup x=some c:=by
 have q:=PySem.W.cellsFrom_some sc.names n [] (.inl h);exact Cr.mp q
theorem yd {CX:CXT} {P:Program} {w:World} {K:Frag} {mg:Str→Option Ab} {base:Heap} {N ps:List Str} {qual:Str} {scope:Scope} {f:Ac} {cd:Ab} {A:Around} {outer:List Env} {s s1:Ae} {H:Hp} {E:XK} {us:List Ab} {vs:List V}
  (S:FnScope N ps scope) (hd:A.handled=none) (e0:Env0 P w K mg base A outer s H) (hl:vs.length=ps.length) (r:qK vs us)
  (x:InCallC s s.heap.objs.size (bindL (envOfC qual scope s.heap.objs.size f cd).kindOf (ps.zip us) fun _=>none) (cellsFrom (s.heap.objs.size+1) scope.names []) (bindC (envOfC qual scope s.heap.objs.size f cd).kindOf (ps.zip us) fun _=>none) s1):
  Inv (WU CX P w K mg base N qual scope f cd A outer s H E) [] (Jz N vs) H s1:=by
 have hpl:ps.length≤N.length:=by have:=congrArg List.length S.pre;rw [List.length_take] at this;omega
 obtain ⟨h1,tk,rfl,hk⟩:=x.done;have noA:∀ b:Ac,b∉(WU CX P w K mg base N qual scope f cd A outer s H E).ex:=fun b z=>absurd (show b∈([]:List Ac) from z) (by simp)
 refine ⟨⟨e0.mod,S.kind,rfl,rfl,An _,fun y z c h1 h2=>?_,fun y hy=>?_,fun y c _ h=>?_,fun _=>hd,Around.frames_deeper e0.frames,.inr ⟨rfl,rfl⟩,fun b z=>absurd z (noA b),e0.bs,e0.bsz,fun b _ _=>noA b,fun b z=>absurd z (noA b),e0.funs,e0.frf⟩,
  rfl,e0.bare,Un.kept hk,⟨_,x.toInCall.ns,fun i y v h1 h2 h3=>?_⟩,fun y c h=>⟨_,x.cell y c h⟩,e0.hok.fresh (An _),fun y c h=>?_,fun p hp=>absurd (show p∈([]:List (Ac×Obj)) from hp) (by simp),e0.hok.kept hk,?_⟩
 ·exact name_of_addr x.apart (Cq h1) (Cq h2)
 ·have hy:scope.names.lookup y=some .cell∨scope.names.lookup y=some .free:=hy;rcases hy with hy | hy
  ·exact Xb hy
  ·exact absurd rfl (S.nofree _ (Cq hy))
 ·exact Nat.le_of_lt (x.above y c (Cq h))
 ·have hi:i<vs.length:=by
   unfold Jz at h2
   by_cases hi:i<vs.length
   ·exact hi
   ·rw [Bz (by simpa using hi)] at h2
    rw [List.getElem?_replicate] at h2;split at h2 <;> cases h2
  have ha:vs[i]?=some v:=by
   unfold Jz at h2;rw [Br (by simpa using hi),Au] at h2
   cases e:vs[i]? with
   | none=>rw [e] at h2;cases h2
   | some a=>rw [e] at h2;cases h2;rfl
  obtain ⟨u,hu,rv⟩:=r.get ha;have hp:ps[i]?=some y:=by
   rw [← S.pre,List.getElem?_take_of_lt ⋯];exact h1
  have ndP:ps.Nodup:=by rw [← S.pre];exact S.nd.sublist (List.take_sublist _ _)
  refine ⟨u,rv,?_⟩;rcases S.par y (A0 hp) with k | k
  ·exact .inl ⟨k,yr ndP hp hu k⟩
  ·obtain ⟨c,e⟩:=Xb (n:=s.heap.objs.size+1) k;refine .inr ⟨.inl k,c,e,?_⟩;have q:=x.cell y c e;rw [yu ndP hp hu (by show scope.names.lookup y≠_;rw [k];decide)] at q
   exact q
 ·exact e0.hok.fresh (Nat.le_of_lt (x.above y c (Cq h)))
 ·unfold Jz;show _=N.length;rw [Ax,Aj,Dy];omega
theorem qi1 {CX:CXT} {P:Program} {w:World} {K:Frag} {mg:Str→Option Ab} {base:Heap} {k:Nat} {f:Ac} {name qual:Str} {params:Arguments} {body:List Stmt} {scope:Scope} {dV kV doc pm cdv ct oc:Ab} {an od:Option Ac}
  {osl:Array (Option Ab)} {N ps:List Str} {sp:Sp} (lk:K.lookup f=some ⟨oc,od,.func (PySem.W.fnOf name qual params body scope dV kV doc pm an cdv ct),osl⟩) (hcd:PySem.W.codeIn K cdv qual=true) (S:FnScope N ps scope)
  (len:∀ vs H Q E,sp vs H Q E→vs.length=ps.length)
  (hbody:∀ (A:Around) (outer:List Env) (s:Ae) (H:Hp) (vs:List V) (Q:VK) (E:XK),Room k (A.deeper (envOfC qual scope s.heap.objs.size f cdv))→sp vs H Q E→
   ∃ t,PSs (WU CX P w K mg base N qual scope f cdv A outer s H E) body t∧t {nx:=fun _ H'=>Q .non H',rt:=Q} (Jz N vs) H):
  FnOk P w K mg base CX (k+1) f (PySem.W.fnOf name qual params body scope dV kV doc pm an cdv ct) ps sp:=by
 refine ⟨len,fun A outer s H args us vs Q E hr e0 hb r hsp=>?_⟩;have hl:=len _ _ _ _ hsp;have KX:K.In s.heap:=e0.mod.kin.keeps fun b o e=>(e0.bs b o e).1;have lim:s.heap.NoLimit:=e0.mod.nolimit.keeps fun b o e=>(e0.bs b o e).1;have hkind:∀ y∈ps.zip us,scope.names.lookup y.1=some .local∨(scope.names.lookup y.1=some .cell∧((cellsFrom (s.heap.objs.size+1) scope.names []).lookup y.1).isSome=true):=fun ⟨n,v⟩ hy=>by
  rcases S.par n (Eg hy).1 with q | q
  ·exact .inl q
  ·exact .inr ⟨q,PySem.W.cellsFrom_some _ _ _ (.inl q)⟩
 refine codeAny_call_function hr.depth (KX _ _ lk) rfl S.co S.gen rfl (PySem.W.codeRec_of KX hcd) (hb _ _ _ _ ?_);refine wpAny_newFunctionEnv_cells S.kind hkind fun env he s1 x=>?_;subst he;refine ⟨lim.keeps x.toInCall.keep,codeAny_func ?_⟩;obtain ⟨t,ht,hq⟩:=hbody A outer s H vs Q E (hr.deeper _) hsp;have I:Inv (WU CX P w K mg base N qual scope f cdv A outer s H E) [] (Jz N vs) H s1:=yd S hr.hd e0 hl r x;refine Dq (ht [] s1 (Jz N vs) H _ I hq) (fun fl s' hs=>?_) fun e s' hs=>hs;have fin:∀ {σ':St} {H':Hp} {v:V} {u:Ab},Inv (WU CX P w K mg base N qual scope f cdv A outer s H E) [] σ' H' s'→qz v u→Q v H'→CE outer P w H s Q u s':=
  fun {σ' H' v u} J rv q=>⟨v,H',J.os,J.bare,J.base,J.hok,rv,q⟩
 cases fl with
 | ret u=>
  obtain ⟨v,σ',H',J,rv,q⟩:=hs;exact fin J rv q
 | next=>
  obtain ⟨σ',H',J,q⟩:=hs;exact fin (v:=V.non) (u:=Value.none) J rfl q
 | brk=>
  obtain ⟨_,_,_,q⟩:=hs;exact False.elim q
 | cont=>
  obtain ⟨_,_,_,q⟩:=hs;exact False.elim q
section
variable {X:Cx} {x:Str} {p pos:Pos} {e:Expr} {es:List Expr} {t:TA} {id T:String} {r:List V→Hp→VK→Prop}
def tCB (r:List V→Hp→VK→Prop) (t:TA):TE:=fun σ H Q=>t σ H fun vs H1=>r vs H1 Q
theorem qt (hc:JI X (.builtin id) r) (hg:Gl X x) (hm:X.mg x=none) (hv:bootBuiltins x=some (.builtin id)) (ha:PA X (e::es) t) (hn:x≠"__name__":=by decide) (hdb:(x==("__debug__":Str))=false:=by decide)
  (he:starEach (e::es) X.env=(false,eval e X.env)::starEach es X.env:=by rfl) (hpl:(backTo pos (starEach es X.env)).any (·.1)=false:=by rfl):PE X (.Call (.Name x p) (e::es) [] pos) (tCB r t):=by
 intro pins s σ H Q I h;refine Ei (vL I hg hm hv ?_ hn hdb);exact PyProof.Rows.callWith_builtin1 (thn (ha pos pins s σ H _ I h) fun us s1 ⟨vs,H1,I1,r1,q1⟩=>hc pins s1 σ H1 vs us Q I1 r1 q1) he hpl
theorem zr (hc:JI X (.type T) r) (hg:Gl X x) (hm:X.mg x=none) (hv:bootBuiltins x=some (.type T)) (ha:PA X (e::es) t) (hn:x≠"__name__":=by decide) (hdb:(x==("__debug__":Str))=false:=by decide)
  (he:starEach (e::es) X.env=(false,eval e X.env)::starEach es X.env:=by rfl) (hpl:(backTo pos (starEach es X.env)).any (·.1)=false:=by rfl):PE X (.Call (.Name x p) (e::es) [] pos) (tCB r t):=by
 intro pins s σ H Q I h;refine Ei (vL I hg hm hv ?_ hn hdb);exact Cm (thn (ha pos pins s σ H _ I h) fun us s1 ⟨vs,H1,I1,r1,q1⟩=>hc pins s1 σ H1 vs us Q I1 r1 q1) he hpl
end
end L2
namespace HT
open PySem PyProof.Rows
section
open PySem.SeqAt
open PySem.AutoSeq1 (wpAny_loadPart')
open PySem.MeetsSeq PySem.MeetsSeq2 PySem.MeetsSeq3
end
section
variable {prog:Program} {w:World} {A:Around} {E:Ab→Ae→Prop} {s:Ae}
theorem cat_tup {t b:Ac} {vs ws:List Ab} {Q:Ab→Ae→Prop} (ht:IsTup s.heap t vs.toArray) (hb:IsTup s.heap b ws.toArray) (hv:vs≠[])
  (h1:ws=[]→Q (.ref t) s) (h2:ws≠[]→Q (.ref s.heap.objs.size) {s with heap:=s.heap.push {cls:= .type "tuple",data:= .seq (vs++ws).toArray}})
  (hsz:vs.length+ws.length≤Af):wpAny (model prog w) A (binaryOp .Add (.ref t) (.ref b)) Q E s:=by
 obtain ⟨⟨cls,dd,data,sl⟩,ho,hc,n,hd⟩:=id ht;obtain ⟨⟨cls2,dd2,data2,sl2⟩,ho2,hc2,n2,hd2⟩:=id hb;simp only at hc hd hc2 hd2;subst hc hd hc2 hd2;have e:vs.toArray++ws.toArray=(vs++ws).toArray:=by simp
 by_cases hw:ws=[]
 ·exact concat_meets ⟨_,ho,rfl⟩ ⟨_,ho2,rfl⟩ noFill_tuple_add seq_tuple_add PySem.F.slot_tuple_add PySem.F.entry_tuple_add (PySem.F.args_tuple_add_2 _ _)
   (tuple_addW1 t b vs.toArray ws.toArray n n2 dd dd2 sl sl2 (by simpa using hv) (by simp [hw])) ⟨ho,ho2,h1 hw⟩
 ·refine concat_meets ⟨_,ho,rfl⟩ ⟨_,ho2,rfl⟩ noFill_tuple_add seq_tuple_add PySem.F.slot_tuple_add PySem.F.entry_tuple_add (PySem.F.args_tuple_add_2 _ _)
   (tuple_addW2 t b vs.toArray ws.toArray n n2 dd dd2 sl sl2 (by simpa using hv) (by simpa using hw) (by rw [A5,A5];exact hsz)) ⟨ho,ho2,?_⟩
  rw [e];exact h2 hw
def sIx (n d:Nat):Option Int→Nat
 | none=>d
 | some v=>if v<0 then (v+(n:Int)).toNat else min v.toNat n
theorem sIx_none (n d:Nat):sIx n d none=d:=rfl
theorem sIx_nat (n d k:Nat):sIx n d (some (k:Int))=min k n:=by
 show (if (k:Int)<0 then ((k:Int)+(n:Int)).toNat else min (k:Int).toNat n)=min k n
 rw [if_neg ⋯,Bf]
theorem qfo (n d:Nat) (hd:d≤n) (o:Option Int):sIx n d o≤n:=by
 cases o with
 | none=>exact hd
 | some v=>
  show (if v<0 then (v+(n:Int)).toNat else min v.toNat n)≤n
  by_cases hv:v<0
  ·rw [if_pos hv];omega
  ·rw [if_neg hv];exact Nat.min_le_right _ _
theorem ZL (v:Int) (n d:Nat):(if v<0 then max (v+(n:Int)) 0 else min v (n:Int))=((sIx n d (some v):Nat):Int):=by
 show (if v<0 then max (v+(n:Int)) 0 else min v (n:Int))=(((if v<0 then (v+(n:Int)).toNat else min v.toNat n):Nat):Int)
 by_cases hv:v<0
 ·simp only [if_pos hv];omega
 ·simp only [if_neg hv];omega
theorem X1 (lo hi:Option Int) (n:Nat):Builtin.Slice.sliceAdjust lo hi 1 (n:Int)=(((sIx n 0 lo:Nat):Int),((sIx n n hi:Nat):Int)):=by
 have h1:¬ ((1:Int)<0):=⋯;unfold Builtin.Slice.sliceAdjust;simp only [h1,if_false];refine Prod.ext ?_ ?_
 ·cases lo with
  | none=>rfl
  | some v=>exact ZL v n 0
 ·cases hi with
  | none=>rfl
  | some v=>exact ZL v n n
theorem Xy (i j:Nat):Builtin.Slice.slicePlaces (i:Int) (j:Int) 1=j - i:=by
 unfold Builtin.Slice.slicePlaces;have h1:(1:Int)>0:=⋯;simp only [h1,if_true,Int.ediv_one];split <;> omega
theorem wR {v:Ab} {o:Option Int} {Q:Option Int→Ae→Prop} (p:IsPart v o) (h:Q o s):wpAny (model prog w) A (Builtin.Slice.slicePartIndex v) Q E s:=by
 cases p with
 | none=>exact slicePart_none h
 | int i t=>exact slicePart_int h
theorem JM {sl:Ac} {vl vu:Ab} {lo hi:Option Int} {n:Nat} {Q:Int×Int×Nat→Ae→Prop} (hs:s.heap.IsSliceOf sl vl vu .none) (pl:IsPart vl lo) (pu:IsPart vu hi)
  (h:Q (((sIx n 0 lo:Nat):Int),1,sIx n n hi - sIx n 0 lo) s):wpAny (model prog w) A (Builtin.Slice.sliceApplied (.ref sl) (pure (n:Int))) Q E s:=by
 obtain ⟨os,hos,hcs,hds⟩:=id hs;unfold Builtin.Slice.sliceApplied Builtin.Slice.sliceFields;refine Ai (Ai (Bq hos hds (x:=vl) rfl (Ai (Bq hos hds (x:=vu) rfl (Ai (Bq hos hds (x:= .none) rfl (A1 ?_)))))));refine Ai (slicePart_none ?_);show wpAny _ _ (if ((1:Int)==0)=true then _ else _) _ _ s
 rw [if_neg O0];refine Ai (wR pl (Ai (wR pu (Ai (A1 ?_)))));show wpAny _ _ (match Builtin.Slice.sliceAdjust lo hi 1 (n:Int) with | (lo,hi)=>pure (lo,(1:Int),Builtin.Slice.slicePlaces lo hi 1)) _ _ s
 rw [X1 lo hi n];show wpAny _ _ (pure (((sIx n 0 lo:Nat):Int),(1:Int),Builtin.Slice.slicePlaces ((sIx n 0 lo:Nat):Int) ((sIx n n hi:Nat):Int) 1)) _ _ s;rw [Xy];exact A1 h
theorem qap (xs:Array Ab) (i k:Nat):((List.range k).filterMap fun (m:Nat)=>xs[((i:Int)+(m:Int)*1).toNat]?).toArray=((xs.toList.drop i).take k).toArray:=by
 have e:(fun (m:Nat)=>xs[((i:Int)+(m:Int)*1).toNat]?)=fun m=>xs[i+m]?:=by
  funext m;have:((i:Int)+(m:Int)*1).toNat=i+m:=⋯;rw [this]
 rw [e];have:=pick_run xs i k;rw [List.filterMap_map] at this;have e2:((fun x=>xs[x]?) ∘ fun x=>i+x)=fun m=>xs[i+m]?:=rfl;rw [e2] at this;rw [this]
theorem getItem_tuple_cut {t sl:Ac} {items:Array Ab} {vl vu:Ab} {lo hi:Option Int} {Q:Ab→Ae→Prop} (ht:IsTup s.heap t items) (hs:s.heap.IsSliceOf sl vl vu .none) (pl:IsPart vl lo) (pu:IsPart vu hi)
  (hw:¬ (sIx items.size 0 lo=0∧sIx items.size items.size hi=items.size))
  (h:Q (.ref s.heap.objs.size) {s with heap:=s.heap.push {cls:= .type "tuple",data:= .seq ((items.toList.drop (sIx items.size 0 lo)).take (sIx items.size items.size hi - sIx items.size 0 lo)).toArray}})
  (hsz:items.size≤Af):wpAny (model prog w) A (getItem (.ref t) (.ref sl)) Q E s:=by
 have htake:sizeOk (.seq ((items.toList.drop (sIx items.size 0 lo)).take (sIx items.size items.size hi - sIx items.size 0 lo)).toArray):=by
  show ((items.toList.drop (sIx items.size 0 lo)).take (sIx items.size items.size hi - sIx items.size 0 lo)).toArray.size≤Af;rw [A5,List.length_take,D9,Ee];omega
 have hj:sIx items.size items.size hi≤items.size:=qfo _ _ (An _) hi;obtain ⟨os,hos,hcs,hds⟩:=id hs;have hTs:s.TypeIs (.ref sl) "slice":=⟨os,hos,hcs⟩;unfold getItem
 try with_reducible refine Es ?_
 first | refine Ai (A1 ?_) | skip
 refine Ai (wpAny_sequenceKey ht.typeIs O0 ?_);refine Ai (B0 (name:=Str.ofString "__getitem__") ht.typeIs PyProof.Rows.slot_tuple_getitem
  (Ch PyProof.Rows.slot_tuple_getitem ht.typeIs entry_tuple_getitem ?_ (args_tuple_getitem _ _)))
 show wpAny _ _ (Builtin.Tuple.tupleItemsOf (.ref t)>>=_) _ _ s;refine Ai (tupleItemsOf_ ht ?_);refine Ai (wpAny_typeOf hTs ?_);rw [if_pos O0];refine Ai (JM hs pl pu ?_);have hno:¬ ((((sIx items.size 0 lo:Nat):Int)==0&&(1:Int)==1&&(sIx items.size items.size hi - sIx items.size 0 lo)==items.size)=true):=by
  intro q;rw [Al,Al] at q;have q1:((sIx items.size 0 lo:Nat):Int)=0:=eq_of_beq q.1.1;have q2:sIx items.size items.size hi - sIx items.size 0 lo=items.size:=eq_of_beq q.2;exact hw ⟨⋯,⋯⟩
 show wpAny _ _ (if (((sIx items.size 0 lo:Nat):Int)==0&&(1:Int)==1&&(sIx items.size items.size hi - sIx items.size 0 lo)==items.size)=true then _ else _) _ _ s
 rw [if_neg hno,qap]
 first
  | exact Ai (m:=Builtin.Tuple.tupleExact _) (Cp (A1 ⟨_,rfl,A1 h⟩) htake)
  | exact Ai (m:=Builtin.Tuple.tupleExact _) (Cp (Ai (A1 (A1 ⟨_,rfl,A1 h⟩))) htake)
  | exact Ai (Ai (m:=Builtin.Tuple.tupleExact _) (Cp (A1 (A1 ⟨_,rfl,A1 h⟩)) htake))
  | exact Ai (Ai (m:=Builtin.Tuple.tupleExact _) (Cp (A1 ⟨_,rfl,A1 h⟩) htake))
end
end HT
namespace L2
open PySem PySem.Spec PyProof.Rows
abbrev TO:=St→Hp→(Option Int→Hp→Prop)→Prop
def PO (X:Cx) (e:Option Expr) (t:TO):Prop:=
 ∀ (pins:List (Ac×Obj)) (s:Ae) (σ:St) (H:Hp) (Q:Option Int→Hp→Prop),Inv X pins σ H s→t σ H Q→
  wpAny (model X.prog X.w) X.A (evalPart e X.env) (fun u s'=>∃ o H',Inv X pins σ H' s'∧IsPart u o∧Q o H') X.xe s
def Vr:TO:=fun _ H Q=>Q none H
def wP (t:TE):TO:=fun σ H Q=>t σ H fun x H1=>∃ i,x= .int i∧Q (some i) H1
section
variable {X:Cx} {e:Expr} {te:TE} {lo hi:Option Expr} {tl th:TO} {pos p2:Pos}
theorem Jl:PO X none Vr:=by
 intro pins s σ H Q I h;rw [evalPart_none];exact A1 ⟨none,H,I,.none,h⟩
theorem qI (h:PE X e te):PO X (some e) (wP te):=by
 intro pins s σ H Q I hw;rw [evalPart_some];refine thn (h pins s σ H _ I hw) fun u s1 ⟨x,H1,I1,r1,q1⟩=>?_;obtain ⟨i,rfl,q⟩:=q1;obtain ⟨t,rfl⟩:=r1;exact ⟨some i,H1,I1,.int i t,q⟩
def SlR (X:Cx) (r:V→Option Int→Option Int→Hp→VK→Prop):Prop:=
 ∀ (pins:List (Ac×Obj)) (s:Ae) (σ:St) (H:Hp) (x:V) (v vl vu:Ab) (lo hi:Option Int) (sl:Ac) (Q:VK),Inv X pins σ H s→qz x v→s.heap.IsSliceOf sl vl vu .none→IsPart vl lo→IsPart vu hi→r x lo hi H Q→
  ∃ T id,typeLookup (.type T) "__getitem__"=pure (some (.builtin id))∧s.TypeIs v T∧wpAny (model X.prog X.w) X.A (getItem v (.ref sl)) (EP X pins σ Q) X.xe s
theorem SlR.or {r r':V→Option Int→Option Int→Hp→VK→Prop} (h:SlR X r) (h':SlR X r'):SlR X (fun x lo hi H Q=>r x lo hi H Q∨r' x lo hi H Q):=by
 intro pins s σ H x v vl vu lo hi sl Q I rx hs pl pu q;rcases q with q | q
 ·exact h pins s σ H x v vl vu lo hi sl Q I rx hs pl pu q
 ·exact h' pins s σ H x v vl vu lo hi sl Q I rx hs pl pu q
def tSl (r:V→Option Int→Option Int→Hp→VK→Prop) (te:TE) (tl th:TO):TE:=fun σ H Q=>te σ H fun x H1=>tl σ H1 fun l H2=>th σ H2 fun u H3=>r x l u H3 Q
theorem qZ {r:V→Option Int→Option Int→Hp→VK→Prop} (hr:SlR X r) (he:PE X e te) (hl:PO X lo tl) (hu:PO X hi th):PE X (.Subscript e (.Slice lo hi none p2) pos) (tSl r te tl th):=by
 intro pins s σ H Q I h;refine Subscript_ (thn (he pins s σ H _ I h) fun v s1 ⟨x,H1,I1,r1,q1⟩=>?_);refine wpAny_Slice (thn (hl pins s1 σ H1 _ I1 q1) fun vl s2 ⟨l,H2,I2,pl,q2⟩=>thn (hu pins s2 σ H2 _ I2 q2) fun vu s3 ⟨u,H3,I3,pu,q3⟩=>?_);rw [evalPart_none];refine A1 ?_;have I4:Inv X pins σ H3 {s3 with heap:=s3.heap.push {cls:= .type "slice",data:= .fields #[vl,vu,.none]}}:=I3.kept (t':=s3.toks) fun b ob q=>Ar _ q
 obtain ⟨T,id,hT,ht,hg⟩:=hr pins {s3 with heap:=s3.heap.push {cls:= .type "slice",data:= .fields #[vl,vu,.none]}} σ H3 x v vl vu l u s3.heap.objs.size Q I4 r1 (Heap.IsSliceOf.new ..) pl pu q3
 show wpAny (model X.prog X.w) X.A (subscriptTail e (.Slice lo hi none p2) v (.ref s3.heap.objs.size)) (EP X pins σ Q) X.xe {s3 with heap:=s3.heap.push {cls:= .type "slice",data:= .fields #[vl,vu,.none]}}
 exact tail_any (ops:=[.ref s3.heap.objs.size,v]) ht hT hg (by with_unfolding_all rfl)
def JX (xs:List V) (lo hi:Option Int):List V:=(xs.drop (HT.sIx xs.length 0 lo)).take (HT.sIx xs.length xs.length hi - HT.sIx xs.length 0 lo)
theorem wt (xs:List V) (lo hi:Option Int):(JX xs lo hi).length≤xs.length:=by
 unfold JX;rw [List.length_take,D9];omega
def qh3 (K:Frag):V→Option Int→Option Int→Hp→VK→Prop:=fun x lo hi H Q=>∃ a xs,x= .ref a∧SqT K H a xs∧
 ¬ (HT.sIx xs.length 0 lo=0∧HT.sIx xs.length xs.length hi=xs.length)∧∀ p,H p=none→Q (.ref p) (upd H p (.tup (JX xs lo hi)))
theorem Q4:SlR X (qh3 X.K):=by
 intro pins s σ H x v vl vu lo hi sl Q I rx hs pl pu h;obtain ⟨a,xs,rfl,hx,hw,q⟩:=h;cases rx;obtain ⟨its,r,ht,hz⟩:=I.tuple hx;have hlen:its.toArray.size=xs.length:=by rw [A5];exact r.length.symm
 refine ⟨"tuple",_,PyProof.Rows.slot_tuple_getitem.lookup,ht.typeIs,?_⟩;refine HT.getItem_tuple_cut ht hs pl pu (by rw [hlen];exact hw) ?_ (by rw [hlen];exact hz)
 rw [hlen];refine ⟨.ref s.heap.objs.size,_,I.laid (t':=s.toks) (o:= .tup (JX xs lo hi)) (fun b ob q=>Ar _ q) (An _) ?_,rfl,q _ (I.hok.fresh (An _))⟩;exact ⟨As (wt xs lo hi) hz,_,(r.drop (HT.sIx xs.length 0 lo)).take (HT.sIx xs.length xs.length hi - HT.sIx xs.length 0 lo),IsTup.new _ _⟩
def qic (K:Frag):R2:=fun x y H Q=>∃ a b xs ys,x= .ref a∧y= .ref b∧SqT K H a xs∧SqT K H b ys∧xs≠[]∧xs.length+ys.length≤Af∧
 (ys=[]→Q (.ref a) H)∧(ys≠[]→∀ p,H p=none→Q (.ref p) (upd H p (.tup (xs++ys))))
theorem qK.nil_iff {xs:List V} {us:List Ab} (r:qK xs us):us=[]↔xs=[]:=by
 cases r with
 | nil=>simp
 | cons _ _=>simp
theorem qda:OpR X (binaryOp .Add) (qic X.K):=by
 intro pins s σ H x y v u Q I rx ry h;obtain ⟨a,b,xs,ys,rfl,rfl,ha,hb,hx,hz,q1,q2⟩:=h;cases rx;cases ry;obtain ⟨its,r1,p1,_⟩:=I.tuple ha;obtain ⟨its2,r2,p2,_⟩:=I.tuple hb;refine HT.cat_tup p1 p2 (fun z=>hx (r1.nil_iff.mp z)) (fun z=>⟨.ref a,H,I,rfl,q1 (r2.nil_iff.mp z)⟩) (fun z=>?_) (by rw [← r1.length,← r2.length];exact hz)
 refine ⟨.ref s.heap.objs.size,_,I.laid (t':=s.toks) (o:= .tup (xs++ys)) (fun b ob q=>Ar _ q) (An _) ?_,rfl,q2 (fun w=>z (r2.nil_iff.mpr w)) _ (I.hok.fresh (An _))⟩;exact ⟨by rw [Ax];exact hz,_,r1.append r2,IsTup.new _ _⟩
end
def ixN (n:Nat) (i:Int):Option Nat:=if 0≤i then (if i<n then some i.toNat else none) else if -(n:Int)≤i then some (i+n).toNat else none
def atI {α:Type} (xs:List α) (i:Int):Option α:=(ixN xs.length i).bind fun j=>xs[j]?
theorem Zu {n:Nat} {i:Int} {j:Nat} (h:ixN n i=some j):seqIndex? i n=some j∧j<n∧ -(n:Int)≤i∧i<n:=by
 unfold ixN at h
 by_cases h0:0≤i
 ·rw [if_pos h0] at h
  by_cases h1:i<n
  ·rw [if_pos h1] at h;have e:i.toNat=j:=Bh h;exact ⟨by rw [seqIndex_of h0 h1,e],⋯,⋯,h1⟩
  ·rw [if_neg h1] at h;cases h
 ·rw [if_neg h0] at h
  by_cases h1: -(n:Int)≤i
  ·rw [if_pos h1] at h;have e:(i+n).toNat=j:=Bh h;exact ⟨by rw [seqIndex_neg ⋯ h1,e],⋯,h1,⋯⟩
  ·rw [if_neg h1] at h;cases h
theorem Yj {α:Type} {xs:List α} {i:Int} {v:α} (h:atI xs i=some v):∃ j,seqIndex? i xs.length=some j∧xs[j]?=some v∧j<xs.length∧ -(xs.length:Int)≤i∧i<xs.length:=by
 unfold atI at h;cases e:ixN xs.length i with
 | none=>rw [e] at h;cases h
 | some j=>
  rw [e] at h;obtain ⟨h1,h2,h3,h4⟩:=Zu e;exact ⟨j,h1,h,h2,h3,h4⟩
theorem zT {α:Type} {xs:List α} {j:Nat} {v:α} (h:xs[j]?=some v):atI xs (j:Int)=some v:=by
 have hj:j<xs.length:=(A2.mp h).1;have e:ixN xs.length (j:Int)=some j:=by
  unfold ixN;rw [if_pos ⋯,if_pos ⋯];simp
 unfold atI;rw [e];exact h
def ZO (b:Expr):Prop:=∀ o i,subscripted b false o i=operate [o,i] (getItem o i)
def IxR (X:Cx) (r:R2):Prop:=
 ∀ (value slice:Expr) (pins:List (Ac×Obj)) (s:Ae) (σ:St) (H:Hp) (x y:V) (v u:Ab) (Q:VK),Inv X pins σ H s→qz x v→qz y u→r x y H Q→
  subscripted slice false v u=operate [v,u] (getItem v u)→wpAny (model X.prog X.w) X.A (subscriptTail value slice v u) (EP X pins σ Q) X.xe s
def MtR (X:Cx) (id:String) (r:V→List V→Hp→VK→Prop):Prop:=
 ∀ (pins:List (Ac×Obj)) (s:Ae) (σ:St) (H:Hp) (x:V) (xs:List V) (v:Ab) (us:List Ab) (Q:VK),Inv X pins σ H s→qz x v→qK xs us→r x xs H Q→
  wpAny (model X.prog X.w) X.A (call (.builtin id) (v::us)) (EP X pins σ Q) X.xe s
section
variable {X:Cx} {a b:Expr} {ta tb:TE} {pos:Pos}
theorem IxR.or {r r':R2} (h:IxR X r) (h':IxR X r'):IxR X (fun x y H Q=>r x y H Q∨r' x y H Q):=by
 intro value slice pins s σ H x y v u Q I rx ry q hs;rcases q with q | q
 ·exact h value slice pins s σ H x y v u Q I rx ry q hs
 ·exact h' value slice pins s σ H x y v u Q I rx ry q hs
theorem qig {r:R2} (hr:IxR X r) (ha:PE X a ta) (hb:PE X b tb) (hs:ZO b):PE X (.Subscript a b pos) (tOp r ta tb):=by
 intro pins s σ H Q I h;exact Subscript_ (qg7 ha hb I h fun v u s2 x y H2 I2 rx ry q=>hr a b pins s2 σ H2 x y v u Q I2 rx ry q (hs _ _))
def qia (K:Frag):R2:=fun x y H Q=>∃ p xs i v,x= .ref p∧y= .int i∧SqL K H p xs∧atI xs i=some v∧Q v H
def qh8 (K:Frag):R2:=fun x y H Q=>∃ p xs i v,x= .ref p∧y= .int i∧SqT K H p xs∧atI xs i=some v∧Q v H
def qh9:R2:=fun x y H Q=>∃ z i c,x= .str z∧y= .int i∧z.length≤Af∧atI z.cps.toList i=some c∧Q (.str ⟨#[c]⟩) H
theorem qdr:IxR X (qia X.K):=by
 intro value slice pins s σ H x y v u Q I rx ry h hs;obtain ⟨p,xs,i,z,rfl,rfl,hq,he,q⟩:=h;cases rx;obtain ⟨t,rfl⟩:=ry;obtain ⟨its,r,pl,hz⟩:=I.list hq;obtain ⟨j,h1,h2,h3,h4,h5⟩:=Yj he;obtain ⟨w,ew,rw'⟩:=r.get h2;have hl:=r.length;have hn:=V3;have fin:EP X pins σ Q w s:=⟨z,H,I,rw',q⟩
 by_cases h0:0≤i
 ·have hj:i.toNat=j:=by
   rw [seqIndex_of h0 h5] at h1;exact Bh h1
  exact item_listR pl.isList h0 ⋯ (by rw [hj];simpa using ew) fin hs
 ·have hj:(i+(its.toArray.size:Int)).toNat=j:=by
   rw [seqIndex_neg ⋯ h4] at h1;rw [A5,← hl];exact Bh h1
  exact subscriptTail_builtinR (x:=w) pl.isList.typeIs slot_list_getitem.lookup
   (wpAny_getItem_list_neg (Q:=fun r s'=>r=w∧EP X pins σ Q r s') pl.isList ⋯ (by rw [A5] <;> omega) ⋯ (by rw [hj];simpa using ew) ⟨rfl,fin⟩) hs
theorem qgl:IxR X (qh8 X.K):=by
 intro value slice pins s σ H x y v u Q I rx ry h hs;obtain ⟨p,xs,i,z,rfl,rfl,hq,he,q⟩:=h;cases rx;obtain ⟨t,rfl⟩:=ry;obtain ⟨its,r,pl,hz⟩:=I.tuple hq;obtain ⟨j,h1,h2,h3,h4,h5⟩:=Yj he;obtain ⟨w,ew,rw'⟩:=r.get h2;have hl:=r.length;have hn:=V3;have fin:EP X pins σ Q w s:=⟨z,H,I,rw',q⟩;exact subscriptTail_builtinR (x:=w) pl.typeIs slot_tuple_getitem.lookup
  (getItem_tuple (j:=j) (Q:=fun r s'=>r=w∧EP X pins σ Q r s') pl ⋯ ⋯ (by rw [A5,← hl];exact h1) (by simpa using ew) ⟨rfl,fin⟩) hs
theorem qgm:IxR X qh9:=by
 intro value slice pins s σ H x y v u Q I rx ry h hs;obtain ⟨z,i,c,rfl,rfl,hz,he,q⟩:=h;obtain ⟨t,rfl⟩:=rx;obtain ⟨t',rfl⟩:=ry;obtain ⟨j,h1,h2,h3,h4,h5⟩:=Yj he;have hl:z.cps.toList.length=z.length:=by simp [Str.length]
 rw [hl] at h1 h4 h5;have hn:=V3;exact tail_any (typeIs_str s z t) slot_str_getitem.lookup (getItem_str (c:=c) (by
  have e1:decide (i< -(2 ^ 63:Int))=false:=Ao ⋯;have e2:decide (i ≥ 2 ^ 63)=false:=Ao ⋯;rw [e1,e2,Er]) (by rw [h1];simpa using h2) ⟨.str ⟨#[c]⟩,H,I.tok _,⟨_,rfl⟩,q⟩) hs
def rIx (K:Frag):R2:=fun x y H Q=>qia K x y H Q∨qh8 K x y H Q∨qh9 x y H Q
theorem qgn:IxR X (rIx X.K):=qdr.or (qgl.or qgm)
theorem XH (its:List Ab) (n j:Nat) (u:Ab):Obj.mapSeq (·.setIfInBounds j u) {cls:= .type "list",data:= .seq its.toArray n}={cls:= .type "list",data:= .seq (its.set j u).toArray n}:=by
 simp [Obj.mapSeq]
theorem Inv.lst {pins:List (Ac×Obj)} {σ:St} {H:Hp} {s:Ae} {p:Ac} {xs:List V} (I:Inv X pins σ H s) (h:H p=some (.lst xs)):
  ∃ (its:List Ab) (n:Nat),qK xs its∧s.heap.get? p=some {cls:= .type "list",data:= .seq its.toArray n}∧xs.length≤Af:=by
 obtain ⟨z,its,n,r,e⟩:=I.hok p _ h;exact ⟨its,n,r,e,z⟩
theorem Inv.lstUpd {pins:List (Ac×Obj)} {σ:St} {H:Hp} {s:Ae} {p:Ac} {xs ys:List V} {its its':List Ab} {n n':Nat} {f:Obj→Obj} (I:Inv X pins σ H s) (h:H p=some (.lst xs))
  (ho:s.heap.get? p=some {cls:= .type "list",data:= .seq its.toArray n}) (hf:f {cls:= .type "list",data:= .seq its.toArray n}={cls:= .type "list",data:= .seq its'.toArray n'}) (r:qK ys its') (hz:ys.length≤Af) (t:Nat):
  Inv X pins σ (upd H p (.lst ys)) {s with heap:=s.heap.update p f,toks:=t}:=by
 have e:(s.heap.update p f).get? p=some {cls:= .type "list",data:= .seq its'.toArray n'}:=by
  rw [Heap.get?_update_self f ho (by rw [hf] <;> rfl),hf]
 refine I.write (x:=p) (e:=p) (by rw [h];trivial) (.inl rfl) (fun b u hb q=>(Heap.get?_update_other _ _ (Ne.symm hb)).trans q) ⟨_,e⟩ ?_
 exact ⟨hz,its',n',r,e⟩
def qh6:V→V→V→Hp→(Hp→Prop)→Prop:=fun o i v H Q=>∃ p xs k j,o= .ref p∧i= .int k∧H p=some (.lst xs)∧ixN xs.length k=some j∧Q (upd H p (.lst (xs.set j v)))
theorem Yr:qja X qh6:=by
 intro pins s σ H o i v ov iv u Q I ro ri rv h;obtain ⟨p,xs,k,j,rfl,rfl,hp,hj,q⟩:=h;cases ro;obtain ⟨t,rfl⟩:=ri;obtain ⟨its,n,r,ho,hz⟩:=I.lst hp;obtain ⟨h1,h2,h3,h4⟩:=Zu hj;have hl:=r.length;have hn:=V3;have I':Inv X pins σ (upd H p (.lst (xs.set j v))) {s with heap:=s.heap.update p (Obj.mapSeq (·.setIfInBounds j u))}:=
  I.lstUpd hp ho (XH its n j u) (r.set rv j) (by rw [List.length_set];exact hz) s.toks
 by_cases h0:0≤k
 ·have hk:k.toNat=j:=by
   rw [seqIndex_of h0 h4] at h1;exact Bh h1
  exact PySem.W.ki_setAt ho h0 ⋯ (by rw [A5,← hl];exact h4) (by rw [hk];exact ⟨_,I',q⟩)
 ·have hk:(k+(its.toArray.size:Int)).toNat=j:=by
   rw [seqIndex_neg ⋯ h3] at h1;rw [A5,← hl];exact Bh h1
  exact PySem.W.ki_setBack ho ⋯ (by rw [A5,← hl];exact h3) ⋯ (by rw [hk];exact ⟨_,I',q⟩)
theorem yC (lo hi:Option Int) (n:Nat):(sliceBounds lo hi none n).1=((HT.sIx n 0 lo:Nat):Int)∧(sliceBounds lo hi none n).2.1=((HT.sIx n n hi:Nat):Int)∧(sliceBounds lo hi none n).2.2=1:=by
 refine ⟨?_,?_,rfl⟩
 ·cases lo with
  | none=>simp [sliceBounds,HT.sIx]
  | some i=>
   simp only [sliceBounds,HT.sIx,Option.getD_none,show (1:Int)>0 from O0,if_true]
   by_cases h:i<0
   ·simp only [h,if_true] <;> omega
   ·simp only [h,if_false] <;> omega
 ·cases hi with
  | none=>simp [sliceBounds,HT.sIx]
  | some i=>
   simp only [sliceBounds,HT.sIx,Option.getD_none,show (1:Int)>0 from O0,if_true]
   by_cases h:i<0
   ·simp only [h,if_true] <;> omega
   ·simp only [h,if_false] <;> omega
theorem WJ (its:List Ab) (lo hi:Option Int):slicePick its.toArray lo hi none=((its.drop (HT.sIx its.length 0 lo)).take (HT.sIx its.length its.length hi - HT.sIx its.length 0 lo)).toArray:=by
 obtain ⟨h1,h2,h3⟩:=yC lo hi its.toArray.size;unfold slicePick;rw [h1,h2,h3];simp only [sliceRange_one,pick_run,A5] <;> rfl
def qh5 (K:Frag):V→Option Int→Option Int→Hp→VK→Prop:=fun x lo hi H Q=>∃ a xs,x= .ref a∧SqL K H a xs∧∀ p,H p=none→Q (.ref p) (upd H p (.lst (JX xs lo hi)))
theorem qcs:SlR X (qh5 X.K):=by
 intro pins s σ H x v vl vu lo hi sl Q I rx hs pl pu h;obtain ⟨a,xs,rfl,hx,q⟩:=h;cases rx;obtain ⟨its,r,ht,hz⟩:=I.list hx;have hlen:=r.length;refine ⟨"list",_,slot_list_getitem.lookup,ht.isList.typeIs,?_⟩;refine wpAny_getItem_list_slice ht.isList hs pl pu .none (by simp) ?_ (by rw [A5] <;> omega)
 rw [WJ,← hlen];refine ⟨.ref s.heap.objs.size,_,I.laid (t':=s.toks) (o:= .lst (JX xs lo hi)) (fun b ob q=>Ar _ q) (An _) ?_,rfl,q _ (I.hok.fresh (An _))⟩;exact ⟨As (wt xs lo hi) hz,_,0,(r.drop (HT.sIx xs.length 0 lo)).take (HT.sIx xs.length xs.length hi - HT.sIx xs.length 0 lo),Bc _ rfl⟩
def vt:V→Bool
 | .non=>true
 | .bl _=>true
 | .int _=>true
 | .str _=>true
 | _=>false
def eqV:V→V→Bool
 | .non,.non=>true
 | .bl a,.bl b=>a==b
 | .bl a,.int b=>(if a then 1 else 0)==b
 | .int a,.bl b=>a==(if b then 1 else 0)
 | .int a,.int b=>a==b
 | .str a,.str b=>a==b
 | _,_=>false
theorem qgt {A:Around} {s:Ae} {y x:V} {u v:Ab} (ry:qz y u) (rx:qz x v) (fy:vt y=true) (fx:vt x=true):SeqAt.EqAt A s u v (eqV y x):=by
 cases y with
 | non=>
  cases ry;cases x with
  | non=>cases rx;exact SeqAt.EqAt.same _
  | bl b=>cases rx;exact SeqAt.EqAt.none_bool b
  | int b=>obtain ⟨t,rfl⟩:=rx;exact SeqAt.EqAt.none_int b t
  | str b=>obtain ⟨t,rfl⟩:=rx;exact SeqAt.EqAt.none_str b t
  | _=>exact absurd (show false=true from fx) Ak
 | bl a=>
  cases ry;cases x with
  | non=>cases rx;exact SeqAt.EqAt.bool_none a
  | bl b=>cases rx;exact SeqAt.EqAt.bool_bool a b
  | int b=>obtain ⟨t,rfl⟩:=rx;exact SeqAt.EqAt.bool_int a b t
  | str b=>obtain ⟨t,rfl⟩:=rx;exact SeqAt.EqAt.bool_str a b t
  | _=>exact absurd (show false=true from fx) Ak
 | int a=>
  obtain ⟨t',rfl⟩:=ry;cases x with
  | non=>cases rx;exact SeqAt.EqAt.int_none a t'
  | bl b=>cases rx;exact SeqAt.EqAt.int_bool a t' b
  | int b=>obtain ⟨t,rfl⟩:=rx;exact SeqAt.EqAt.int_int a t' b t
  | str b=>obtain ⟨t,rfl⟩:=rx;exact SeqAt.EqAt.int_str a t' b t
  | _=>exact absurd (show false=true from fx) Ak
 | str a=>
  obtain ⟨t',rfl⟩:=ry;cases x with
  | non=>cases rx;exact SeqAt.EqAt.str_none a t'
  | bl b=>cases rx;exact SeqAt.EqAt.str_bool a t' b
  | int b=>obtain ⟨t,rfl⟩:=rx;exact SeqAt.EqAt.str_int a t' b t
  | str b=>obtain ⟨t,rfl⟩:=rx;exact SeqAt.EqAt.str_str a t' b t
  | _=>exact absurd (show false=true from fx) Ak
 | _=>exact absurd (show false=true from fy) Ak
def eqU (x:V) (u:Ab):Bool:=match u with
 | .none=>eqV .non x
 | .bool b=>eqV (.bl b) x
 | .int i _=>eqV (.int i) x
 | .str z _=>eqV (.str z) x
 | _=>false
theorem qbo {x y:V} {u:Ab} (r:qz y u) (f:vt y=true):eqU x u=eqV y x:=by
 cases y with
 | non=>cases r;rfl
 | bl b=>cases r;rfl
 | int i=>obtain ⟨t,rfl⟩:=r;rfl
 | str z=>obtain ⟨t,rfl⟩:=r;rfl
 | _=>exact absurd (show false=true from f) Ak
theorem VH {x:V}:∀ {xs:List V} {us:List Ab},qK xs us→xs.all vt=true→us.any (eqU x)=xs.any fun y=>eqV y x
 | _,_,.nil,_=>rfl
 | y::xs,u::us,.cons r t,f=>by
  rw [C3,Al] at f;rw [Ct,Ct,qbo r f.1,VH t f.2]
theorem vJ {A:Around} {s:Ae} {x:V} {v:Ab} (rx:qz x v) (fx:vt x=true):∀ {xs:List V} {us:List Ab},qK xs us→xs.all vt=true→∀ u∈us,SeqAt.EqAt A s u v (eqU x u)
 | _,_,.nil,_=>fun u hu=>by cases hu
 | y::xs,u::us,.cons r t,f=>fun u' hu=>by
  rw [C3,Al] at f;rcases Av.mp hu with rfl | hu
  ·rw [qbo r f.1];exact qgt r rx f.1 fx
  ·exact vJ rx fx t f.2 u' hu
def inV (x:V) (xs:List V):Bool:=xs.any fun y=>eqV y x
def rIn (K:Frag) (neg:Bool):R2:=fun x y H Q=>∃ p xs,y= .ref p∧(SqL K H p xs∨SqT K H p xs)∧vt x=true∧xs.all vt=true∧Q (.bl (if neg then !inV x xs else inV x xs)) H
theorem Qb:OpR X (compareOp .In) (rIn X.K false):=by
 intro pins s σ H x y v u Q I rx ry h;obtain ⟨p,xs,rfl,hq,fx,fs,q⟩:=h;cases ry;rcases hq with hq | hq
 ·obtain ⟨its,r,pl,hz⟩:=I.list hq;refine SeqAt.in_listAt (eqU x) pl.isList (fun w hw=>vJ rx fx r fs w (by simpa using hw)) ⟨.bl _,H,I,rfl,?_⟩
  rw [show its.toArray.any (eqU x)=its.any (eqU x) by simp,VH r fs]
  exact q
 ·obtain ⟨its,r,pl,hz⟩:=I.tuple hq;refine SeqAt.in_tupleAt (eqU x) pl (fun w hw=>vJ rx fx r fs w (by simpa using hw)) ⟨.bl _,H,I,rfl,?_⟩
  rw [show its.toArray.any (eqU x)=its.any (eqU x) by simp,VH r fs]
  exact q
theorem yQ:OpR X (compareOp .NotIn) (rIn X.K true):=by
 intro pins s σ H x y v u Q I rx ry h;obtain ⟨p,xs,rfl,hq,fx,fs,q⟩:=h;cases ry;rcases hq with hq | hq
 ·obtain ⟨its,r,pl,hz⟩:=I.list hq;refine SeqAt.notIn_listAt (eqU x) pl.isList (fun w hw=>vJ rx fx r fs w (by simpa using hw)) ⟨.bl _,H,I,rfl,?_⟩
  rw [show its.toArray.any (eqU x)=its.any (eqU x) by simp,VH r fs]
  exact q
 ·obtain ⟨its,r,pl,hz⟩:=I.tuple hq;refine SeqAt.notIn_tupleAt (eqU x) pl (fun w hw=>vJ rx fx r fs w (by simpa using hw)) ⟨.bl _,H,I,rfl,?_⟩
  rw [show its.toArray.any (eqU x)=its.any (eqU x) by simp,VH r fs]
  exact q
theorem Yh:JI X (.type "list") (fun xs H Q=>∃ p ys,xs=[.ref p]∧(SqL X.K H p ys∨SqT X.K H p ys)∧∀ l,H l=none→Q (.ref l) (upd H l (.lst ys))):=by
 intro pins s σ H xs us Q I r h;obtain ⟨p,ys,rfl,hq,q⟩:=h;obtain ⟨u,rfl,rx⟩:=v5 r;cases rx;have fin:∀ (its:List Ab),qK ys its→ys.length≤Af→∀ (h':Heap) (c':Nat),(∀ b o',s.heap.get? b=some o'→h'.get? b=some o')→
   h'.get? s.heap.objs.size=some {cls:= .type "list",dict:=none,data:= .seq its.toArray c',slots:= #[]}→EP X pins σ Q (.ref s.heap.objs.size) {s with heap:=h'}:=fun its r' hz h' c' kp e=>
  ⟨.ref s.heap.objs.size,_,I.laid (t':=s.toks) kp (An _) (show zt X.prog X.w _ h' _ (.lst ys) from ⟨hz,its,c',r',e⟩),rfl,q _ (I.hok.fresh (An _))⟩
 rcases hq with hq | hq
 ·obtain ⟨its,r',pl,hz⟩:=I.list hq;have hlen:=r'.length;obtain ⟨o,ho,hc,n,hd⟩:=pl.isList;exact call_list_seq p (.inl rfl) ho hc hd (fun h' c' kp e=>fin its r' hz h' c' kp e) (by simp only [A5] <;> omega)
 ·obtain ⟨its,r',pl,hz⟩:=I.tuple hq;have hlen:=r'.length;obtain ⟨o,ho,hc,n,hd⟩:=pl;exact call_list_seq p (.inr rfl) ho hc hd (fun h' c' kp e=>fin its r' hz h' c' kp e) (by simp only [A5] <;> omega)
theorem WV:JI X (.type "tuple") (fun xs H Q=>∃ p ys,xs=[.ref p]∧((SqL X.K H p ys∧∀ l,H l=none→Q (.ref l) (upd H l (.tup ys)))∨(SqT X.K H p ys∧Q (.ref p) H))):=by
 intro pins s σ H xs us Q I r h;obtain ⟨p,ys,rfl,h⟩:=h;obtain ⟨u,rfl,rx⟩:=v5 r;cases rx;rcases h with ⟨hq,q⟩ | ⟨hq,q⟩
 ·obtain ⟨its,r',pl,hz⟩:=I.list hq;have hlen:=r'.length;refine call_tuple_list pl.isList (fun h' kp=>?_) (by simp only [A5] <;> omega)
  have I1:Inv X pins σ H {s with heap:=h'}:=I.kept (t':=s.toks) kp
  have I2:Inv X pins σ (upd H h'.objs.size (.tup ys)) {s with heap:=h'.push {cls:= .type "tuple",data:= .seq its.toArray}}:=
   I1.laid (t':=s.toks) (fun b o e=>Ar _ e) (An _) (show zt X.prog X.w _ _ _ (.tup ys) from ⟨hz,its,r',IsTup.new _ _⟩)
  exact ⟨.ref h'.objs.size,_,I2,rfl,q _ (I1.hok.fresh (An _))⟩
 ·obtain ⟨its,r',pl,hz⟩:=I.tuple hq;exact call_tuple_same pl ⟨.ref p,H,I,rfl,q⟩
def tyV (K:Frag) (T:String) (x:V) (H:Hp):Prop:=match x with
 | .str _=>T="str"
 | .int _=>T="int"
 | .ref p=>(T="list"∧∃ xs,SqL K H p xs)∨(T="tuple"∧∃ o,K.lookup p=some o∧o.cls= .type "tuple"∧o.dict=none)∨
   (T="dict"∧((∃ kvs,H p=some (.dK kvs))∨∃ kvs,H p=some (.dT kvs)))∨(T="set"∧∃ S n,H p=some (.set S n))
 | _=>False
theorem QL {pins:List (Ac×Obj)} {σ:St} {H:Hp} {s:Ae} {T:String} {x:V} {v:Ab} (I:Inv X pins σ H s) (r:qz x v) (ty:tyV X.K T x H):
  s.TypeIs v T∧∀ a,v= .ref a→∃ ob,s.heap.get? a=some ob∧ob.dict=none:=by
 cases x with
 | str z=>
  obtain ⟨t,rfl⟩:=r;cases (show T="str" from ty);exact ⟨typeIs_str s z t,fun _ e=>nomatch e⟩
 | int i=>
  obtain ⟨t,rfl⟩:=r;cases (show T="int" from ty);exact ⟨typeIs_int s i t,fun _ e=>nomatch e⟩
 | ref p=>
  cases r;rcases ty with ⟨rfl,xs,hq⟩ | ⟨rfl,o,hk,hc,hd⟩ | ⟨rfl,hk⟩ | ⟨rfl,S,n,hk⟩
  ·obtain ⟨its,_,pl,_⟩:=I.list hq;refine ⟨pl.isList.typeIs,fun a e=>?_⟩;cases e;obtain ⟨o,n,e,c,hd,_⟩:=pl;exact ⟨o,e,hd⟩
  ·refine ⟨⟨o,I.kIn p o hk,hc⟩,fun a e=>?_⟩;cases e;exact ⟨o,I.kIn _ o hk,hd⟩
  ·have z:∃ o,s.heap.get? p=some o∧o.ExactDict:=by
    rcases hk with ⟨kvs,hk⟩ | ⟨kvs,hk⟩
    ·obtain ⟨_,_,_,_,o,_,_,e,ex,_⟩:=I.hok p _ hk;exact ⟨o,e,ex⟩
    ·obtain ⟨_,_,_,_,o,_,_,e,ex,_⟩:=I.hok p _ hk;exact ⟨o,e,ex⟩
   obtain ⟨o,e,ex⟩:=z;refine ⟨⟨o,e,ex.1⟩,fun a e2=>?_⟩;cases e2;exact ⟨o,e,ex.2.1⟩
  ·obtain ⟨o,_,_,_,e,ex,_⟩:=I.hok p _ hk;refine ⟨⟨o,e,ex.1⟩,fun a e2=>?_⟩;cases e2;exact ⟨o,e,ex.2.1⟩
 | _=>exact False.elim ty
def qhk (K:Frag) (T:String) (r:V→List V→Hp→VK→Prop) (to:TE):TE:=fun σ H Q=>to σ H fun x H1=>tyV K T x H1∧r x [] H1 Q
def tBM (K:Frag) (T:String) (r:V→List V→Hp→VK→Prop) (to:TE) (t:TA):TE:=fun σ H Q=>to σ H fun x H1=>tyV K T x H1∧t σ H1 fun xs H2=>r x xs H2 Q
variable {o e:Expr} {es:List Expr} {to:TE} {t:TA} {name:Str} {apos cpos:Pos} {T id:String} {r:V→List V→Hp→VK→Prop}
theorem qfz (pa:PlainAttrs T) (slot:Slot T name id) (hty:typeOf (.builtin id)=pure (.type "method_descriptor")) (hm:MtR X id r) (ho:PE X o to)
  (hbase:attributeBase o name X.env (eval o X.env)=eval o X.env:=by rfl) (hline:(apos.endLine==cpos.line)=true:=by rfl):PE X (.Call (.Attribute o name apos) [] [] cpos) (qhk X.K T r to):=by
 intro pins s σ H Q I h;refine wpAny_Call_method0_late hbase hline (thn (ho pins s σ H _ I h) fun v s1 ⟨x,H1,I1,r1,ty,q1⟩=>?_);obtain ⟨h1,h2⟩:=QL I1 r1 ty;exact ⟨T,id,pa,slot,hty,h1,h2,Calls.callWith_builtin rfl (PySem.evalArgs_none (hm pins s1 σ H1 x [] v [] Q I1 r1 .nil q1))⟩
theorem qih (pa:PlainAttrs T) (slot:Slot T name id) (hty:typeOf (.builtin id)=pure (.type "method_descriptor")) (hm:MtR X id r) (ho:PE X o to) (ha:PA X (e::es) t)
  (hbase:attributeBase o name X.env (eval o X.env)=eval o X.env:=by rfl)
  (hfew:((backTo cpos (starEach (e::es) X.env)).all (fun x=>!x.1)&&(backToKw cpos (keywordEach [] X.env)).all (fun x=>x.1.isSome)
   &&decide ((e::es).length+([]:List Keyword).length+(if ([]:List Keyword).isEmpty then 0 else 1)<30))=true:=by rfl)
  (hline:(apos.endLine==cpos.line)=true:=by rfl) (hs:starEach (e::es) X.env=(false,eval e X.env)::starEach es X.env:=by rfl) (hplain:(backTo cpos (starEach es X.env)).any (·.1)=false:=by rfl):
  PE X (.Call (.Attribute o name apos) (e::es) [] cpos) (tBM X.K T r to t):=by
 intro pins s σ H Q I h;refine wpAny_Call_method_late hbase hfew hline rfl (thn (ho pins s σ H _ I h) fun v s1 ⟨x,H1,I1,r1,ty,q1⟩=>?_);obtain ⟨h1,h2⟩:=QL I1 r1 ty;refine ⟨T,id,pa,slot,hty,h1,h2,?_⟩;have hA:=ha cpos pins s1 σ H1 _ I1 q1;rw [hs] at hA ⊢;refine Calls.callWith_builtin (by show (false||(backTo cpos (starEach es X.env)).any (·.1))=false;rw [hplain] <;> rfl) (Calls.evalArgs_plain ?_)
 exact thn hA fun us s2 ⟨vs,H2,I2,r2,q2⟩=>hm pins s2 σ H2 x vs v us Q I2 r1 r2 q2
end
def MtM (X:Cx) (id:String) (r:V→List V→Hp→VK→Prop):Prop:=
 ∀ (pins:List (Ac×Obj)) (s:Ae) (σ:St) (H:Hp) (x:V) (xs:List V) (v:Ab) (us:List Ab) (Q:VK),Inv X pins σ H s→qz x v→qK xs us→r x xs H Q→
  wpAny (model X.prog X.w) X.A (call (.builtin id) (v::us)) (EP X pins σ Q) X.xe s
theorem qK.one:∀ {x:V} {us:List Ab},qK [x] us→∃ u,us=[u]∧qz x u
 | _,_,.cons r .nil=>⟨_,rfl,r⟩
theorem qK.zero:∀ {us:List Ab},qK [] us→us=[]
 | _,.nil=>rfl
theorem qK.dropLast {xs:List V} {us:List Ab} (h:qK xs us):qK xs.dropLast us.dropLast:=by
 induction h with
 | nil=>exact .nil
 | cons r t ih=>
  cases t with
  | nil=>exact .nil
  | cons q t'=>exact .cons r ih
theorem qK.rep {xs:List V} {us:List Ab} (h:qK xs us):∀ k:Nat,qK (List.replicate k xs).flatten (List.replicate k us).flatten
 | 0=> .nil
 | k+1=>by
  rw [Cv,Cv,Dw,Dw];exact qK.append h (qK.rep h k)
theorem XU {α:Type} (l:List α):l.eraseIdx (l.length - 1)=l.dropLast:=by
 induction l with
 | nil=>rfl
 | cons a r ih=>
  cases r with
  | nil=>rfl
  | cons b r=>
   have e:(a::b::r).length - 1=((b::r).length - 1)+1:=by
    have h1:(a::b::r).length=r.length+2:=rfl;have h2:(b::r).length=r.length+1:=rfl;omega
   rw [e,List.eraseIdx_cons_succ,ih]
   all_goals rfl
theorem yh (its:List Ab):∀ (k:Nat) (acc:List Ab),
  List.foldl (fun x1 x2=>x1++x2) acc.toArray (List.replicate k its.toArray)=(acc++(List.replicate k its).flatten).toArray
 | 0,acc=>by simp
 | k+1,acc=>by
  have e:acc.toArray++its.toArray=(acc++its).toArray:=by simp
  have e2:(acc++its)++(List.replicate k its).flatten=acc++(List.replicate (k+1) its).flatten:=by
   rw [Cv,Dw,Du]
  rw [← e2,← yh its k (acc++its),← e,Cv,List.foldl_cons]
section
variable {X:Cx} {pins:List (Ac×Obj)} {σ:St} {H:Hp} {s:Ae} {l b:Ac} {xs ys zs:List V}
theorem Inv.lset {its its':List Ab} {n:Nat} {f:Array Ab→Array Ab} {t':Nat} (I:Inv X pins σ H s) (hH:H l=some (.lst xs))
  (e:s.heap.get? l=some {cls:= .type "list",data:= .seq its.toArray n}) (hf:f its.toArray=its'.toArray) (hv:qK ys its') (hz:ys.length≤Af):
  Inv X pins σ (upd H l (.lst ys)) {s with heap:=s.heap.update l (Obj.mapSeq f),toks:=t'}:=by
 have q:=PySem.IsL.update e f;rw [hf] at q;refine I.write (x:=l) (e:=l) (by rw [hH];exact trivial) (.inl rfl) (fun b' u hb hu=>(Heap.get?_update_other s.heap (Obj.mapSeq f) (Ne.symm hb)).trans hu) ⟨_,q⟩ ?_
 exact ⟨hz,its',_,hv,q⟩
theorem Inv.lnew {its:List Ab} {t':Nat} (I:Inv X pins σ H s) (hv:qK ys its) (hz:ys.length≤Af):
  Inv X pins σ (upd H s.heap.objs.size (.lst ys)) {s with heap:=s.heap.push {cls:= .type "list",data:= .seq its.toArray},toks:=t'}:=
 I.laid (fun _ _ q=>Ar _ q) (An _) ⟨hz,its,0,hv,Bc _ rfl⟩
theorem Inv.fresh (I:Inv X pins σ H s):H s.heap.objs.size=none:=I.hok.fresh (An _)
theorem Inv.lstM (I:Inv X pins σ H s) (hH:H l=some (.lst xs)):xs.length≤Af∧∃ (its:List Ab) (n:Nat),qK xs its∧xs.length=its.length∧s.heap.get? l=some {cls:= .type "list",data:= .seq its.toArray n}:=by
 obtain ⟨z,its,n,r,e⟩:=I.hok l _ hH;exact ⟨z,its,n,r,r.length,e⟩
theorem qa2 {n:Nat} (h:n≤Af):Builtin.List.listTooLong n=false:=by
 unfold Builtin.List.listTooLong;exact Ao ⋯
end
section
variable {X:Cx}
def yL:V→List V→Hp→VK→Prop:=fun x vs H Q=>∃ l xs y,x= .ref l∧vs=[y]∧H l=some (.lst xs)∧xs.length<Af∧Q .non (upd H l (.lst (xs++[y])))
theorem jg:MtM X "list.append" yL:=by
 intro pins s σ H x vs v us Q I rx rv h;obtain ⟨l,xs,y,rfl,rfl,hH,hz,q⟩:=h;cases rx;obtain ⟨u,rfl,ru⟩:=rv.one;obtain ⟨z,its,n,r,hl,e⟩:=I.lstM hH;refine El F.slot_list_append ⟨_,e,rfl⟩ F.entry_list_append (F.args_list_append_2 _ _) (PySem.list_append l its.toArray n u (by rw [A5];omega)) ⟨e,?_⟩
 refine ⟨.non,_,I.lset (its':=its++[u]) hH e (by simp) (r.append (.cons ru .nil)) ?_,rfl,q⟩
 rw [Ax,List.length_singleton];omega
def rPop:V→List V→Hp→VK→Prop:=fun x vs H Q=>∃ l xs y,x= .ref l∧vs=[]∧H l=some (.lst xs)∧xs[xs.length - 1]?=some y∧Q y (upd H l (.lst xs.dropLast))
theorem qgb:MtM X "list.pop" rPop:=by
 intro pins s σ H x vs v us Q I rx rv h;obtain ⟨l,xs,y,rfl,rfl,hH,hy,q⟩:=h;cases rx;have hus:=rv.zero;subst hus;obtain ⟨z,its,n,r,hl,e⟩:=I.lstM hH;obtain ⟨u,hu,ru⟩:=r.get hy;have hy':its.toArray[its.toArray.size - 1]?=some u:=by
  show its.toArray[its.length - 1]?=some u;rw [← Array.getElem?_toList,← hl];exact hu
 refine El F.slot_list_pop ⟨_,e,rfl⟩ F.entry_list_pop (F.args_list_pop_1 _) (MeetsSeq.list_pop_last l its.toArray n u hy' (by rw [A5];omega)) ⟨e,?_⟩
 refine ⟨y,_,I.lset (its':=its.dropLast) hH e ?_ r.dropLast ?_,ru,q⟩
 ·show its.toArray.eraseIdxIfInBounds (its.toArray.size - 1)=its.dropLast.toArray;rw [A5,List.eraseIdxIfInBounds_toArray,XU]
 ·rw [List.length_dropLast];omega
def qid:R2:=fun x y H Q=>∃ l b xs zs,x= .ref l∧y= .ref b∧H l=some (.lst xs)∧H b=some (.lst zs)∧xs.length+zs.length≤Af∧∀ p,H p=none→Q (.ref p) (upd H p (.lst (xs++zs)))
theorem qf4:OpR X (binaryOp .Add) qid:=by
 intro pins s σ H x y v u Q I rx ry h;obtain ⟨l,b,xs,zs,rfl,rfl,hH,hB,hz,q⟩:=h;cases rx;cases ry;obtain ⟨z,its,n,r,hl,e⟩:=I.lstM hH;obtain ⟨z2,its2,n2,r2,hl2,e2⟩:=I.lstM hB;refine PySem.P.add_list e e2 ?_ (by rw [A5,A5];omega)
 have ea:its.toArray++its2.toArray=(its++its2).toArray:=by simp
 rw [ea];exact ⟨.ref _,_,I.lnew (t':=s.toks) (r.append r2) (by rw [Ax];omega),rfl,q _ I.fresh⟩
theorem Zt {α:Type} (xs:List α) (k:Nat):(List.replicate k xs).flatten.length=k*xs.length:=by
 induction k with
 | zero=>simp
 | succ k ih=>rw [Cv,Dw,Ax,ih,Nat.succ_mul,Nat.add_comm]
end
section
variable {prog:Program} {w:World} {A:Around} {E:Ab→Ae→Prop} {s:Ae}
end
section
variable {X:Cx}
end
end L2
namespace Att
open PySem PySem.W PySem.Calls PyProof.Rows
theorem wB {P:Params} {h:Heap}:∀ (ns:List Int) (vs:List Ab),WellAll P h vs (ns.map WData.int)→IntsAre vs ns:=by
 intro ns
 induction ns with
 | nil=>
  intro vs w;rw [List.map_nil] at w;cases w;exact .nil
 | cons n ns ih=>
  intro vs w;rw [Bb] at w;cases w with
  | cons a b=>
   cases a;exact .cons _ _ (ih _ b)
theorem Z0 {l:OpenLaw} {n:Nat} (hn:l.most=some n) {P:Params} {h:Heap} {args:List WData} {vals:List Ab}
  (hpre:l.row.toRowW.claim.pre args=true) (hwl:WellAll P h vals args):
  ∃ a vs ns,vals=[Value.ref a]∧args=[WData.list (ns.map WData.int)]∧h.get? a=some {cls:= .type "list",data:= .seq vs.toArray}∧IntsAre vs ns∧ns.length≤n:=by
 have hsh:WShape.hasAll [] args [.list .int]=true:=(pre_splitW hpre).1;have hc:l.pre.holds [] {args:=args}=true:=(pre_splitW hpre).2;obtain ⟨d,r,rfl,h1,h2⟩:=hasAllW_cons hsh;obtain rfl:=hasAllW_nil h2;obtain ⟨xs,rfl,h3⟩:=hasW_list h1;obtain ⟨ns,rfl⟩:=items_int h3;have hlen:ns.length≤n:=by
  unfold OpenLaw.pre at hc;have h4:(WTm.not (.lt (.lit (.int (n:Int))) (.len (.arg 0)))).holds [] {args:=[.list (ns.map .int)]}=true:=by
   have h4:=(holds_andW hc).1;rw [hn] at h4;exact h4
  have h5:=condW_of h4 (w_not (w_lt w_lit (w_len_list (w_arg rfl))));rw [Aj] at h5;refine Nat.le_of_not_lt fun q=>?_;have q':(n:Int)<((ns.length:Nat):Int):=⋯
  first
   | (rw [Am q'] at h5;exact absurd h5 O0)
   | (simp at h5;omega)
 cases hwl with
 | cons w1 w2=>
  cases w2;cases w1 with
  | list ho hall=>exact ⟨_,_,ns,rfl,rfl,ho,wB ns _ hall,hlen⟩
theorem Z8 (l:OpenLaw) (args:List WData):l.row.toRowW.claim.post args (.bool true) args=true:=
 postW_of (r:=l.row.toRowW) (X:=(true==true))
  (show WShape.has [] (.bool true) .bool=true by first | rfl | decide | simp [WShape.has,WShape.arms,WShape.armsAll])
  (show (WTm.eq .res (.lit (.bool true))).value [] {args:=args,res:=some (.bool true),after:=args}=some (.bool (true==true)) from w_eq_bool (w_res rfl) w_lit) rfl
theorem attach_call {l:OpenLaw} {n:Nat} {q:Program} {loose:List Str} {XP:(Str→Option Ab)→Heap→Prop} {YP:World→Heap→Prop} {d:DefRec}
  (hn:l.most=some n) (hdf:d.params.defaults=[])
  (call:∀ (w:World) (s₀ s₁:Ae) (mg mb:Str→Option Ab) (fa:Ac) (o:Obj) (pm cd doc:Ab) (a:Ac) (vs:List Ab) (ns:List Int),
   Ground q loose [] XP w s₀ mg mb s₁.heap→YP w s₁.heap→
   s₁.heap.get? fa=some o→o.data= .func (docDef d.name d.params d.body d.scope pm cd doc)→s₁.heap.CodeRec cd d.name→mg d.name=some (.ref fa)→
   s₁.heap.get? a=some {cls:= .type "list",data:= .seq vs.toArray}→IntsAre vs ns→ns.length≤n→s₁.gens= #[]→
   codeAny (model l.prog w) callerA (.call (.ref fa) ⟨[.ref a],[]⟩) (fun r s'=>r= .ok (.ret (.bool true))∧OldK s₁.heap s'.heap∧s'.os=s₁.os∧AllBare s'.gens) s₁):
  WalkO q loose XP YP l.row.toRowW d [] (fun f vs=>PySem.call f vs):=by
 intro w s₀ s₁ mg mb G Y fa o pm cd doc dV kV ho hd hcd hD hmg hg args vals as hpre hlay hrd hwl hlo;obtain rfl:dV= .none:=Dflts.none hD hdf;obtain rfl:kV= .none:=Dflts.noKw hD;obtain ⟨a,vs,ns,rfl,rfl,hobj,hints,hlen⟩:=Z0 hn hpre hwl;refine enter_call (codeAny_mono (call w s₀ s₁ mg mb fa o pm cd doc a vs ns G Y ho (fd_plain hd) hcd hmg hobj hints hlen hg) fun r s' hq=>?_);obtain ⟨rfl,h2,h3,h4⟩:=hq;exact ⟨.inl ⟨.bool true,.bool true,[],rfl,fun _=>rfl,.bool true,Z8 l _,fun _=>⟨List.Pairwise.nil,fun _ hm=>(nomatch hm)⟩⟩,h2,h3,h4⟩
section
variable {prog:Program} {w:World} {A:Around} {E:Ab→Ae→Prop} {s:Ae} {K:Frag}
end
end Att
namespace L2
open PySem PySem.Spec PyProof.Rows
theorem VJ:∀ {vs:List Ab} {ns:List Int},IntsAre vs ns→qK (ns.map V.int) vs
 | _,_,.nil=> .nil
 | _,_,.cons n t h=> .cons ⟨t,rfl⟩ (VJ h)
def qhd (H:Hp):Prop:=∀ b,H b=none∨∃ o xs,H b=some (.frz o (.lst xs))
def y4 (s:Stmt) (j:Nat):Stmt:=match s with
 | .ClassDef _ _ _ body _ _ _ _ _ _ _=>body.getD j (.Pass ⟨0,0,0,0⟩)
 | _=> .Pass ⟨0,0,0,0⟩
def j5 (s:Stmt):Arguments:=match s with
 | .FunctionDef _ a _ _ _ _ _ _ _ _=>a
 | _=>{posonlyargs:=[],args:=[],vararg:=none,kwonlyargs:=[],kw_defaults:=[],kwarg:=none,defaults:=[]}
def ju (s:Stmt):List Stmt:=match s with
 | .FunctionDef _ _ b _ _ _ _ _ _ _=>b
 | _=>[]
def qh (s:Stmt):Scope:=match s with
 | .FunctionDef _ _ _ _ _ _ sc _ _ _=>sc
 | _=>{kind:= .function,names:=[],isGenerator:=false,isCoroutine:=false}
abbrev CX0:CXT:=fun _ _ _ _ _ _=>False
abbrev E0:XK:=fun _ _ _=>False
theorem qav {X:Cx}:wd CX0 X E0:=fun _ _ _ _ _ _ _ h=>h.elim
structure Fun (K:Frag) (x qual:Str) (st:Stmt) (f:Ac) (fd:FuncData):Prop where
 ex:∃ (oc:Ab) (od:Option Ac) (kV doc pm:Ab) (an:Option Ac) (cdv ct:Ab) (osl:Array (Option Ab)),
  fd=PySem.W.fnOf x qual (j5 st) (ju st) (qh st) .none kV doc pm an cdv ct∧K.lookup f=some ⟨oc,od,.func fd,osl⟩∧PySem.W.codeIn K cdv qual=true
 kp:PySem.W.keepIn K (.ref f)=true
section
variable {P:Program} {w:World} {K:Frag} {mg:Str→Option Ab} {base:Heap}
theorem Fun.ok {x qual:Str} {st:Stmt} {f:Ac} {fd:FuncData} {N ps:List Str} {k:Nat} {sp:Sp} (F:Fun K x qual st f fd) (S:FnScope N ps (qh st)) (len:∀ vs H Q E,sp vs H Q E→vs.length=ps.length)
  (hbody:∀ (cdv:Ab) (A:Around) (outer:List Env) (s:Ae) (H:Hp) (vs:List V) (Q:VK) (E:XK),Room k (A.deeper (envOfC qual (qh st) s.heap.objs.size f cdv))→sp vs H Q E→
   ∃ t,PSs (WU CX0 P w K mg base N qual (qh st) f cdv A outer s H E).nox (ju st) t∧t {nx:=fun _ H'=>Q .non H',rt:=Q} (Jz N vs) H):FnOk P w K mg base CX0 (k+1) f fd ps sp:=by
 obtain ⟨oc,od,kV,doc,pm,an,cdv,ct,osl,rfl,lk,hcd⟩:=F.ex;refine qi1 lk hcd S len fun A outer s H vs Q E hr hsp=>?_;obtain ⟨t,h,q⟩:=hbody cdv A outer s H vs Q E hr hsp;exact ⟨t,h.nox,q⟩
theorem Fun.binds {x qual:Str} {st:Stmt} {f:Ac} {fd:FuncData} {ps:List Str} (F:Fun K x qual st f fd)
  (h:∀ (kV doc pm:Ab) (an:Option Ac) (cdv ct:Ab) (us:List Ab),us.length=ps.length→bindArgs (PySem.W.fnOf x qual (j5 st) (ju st) (qh st) .none kV doc pm an cdv ct) ⟨us,[]⟩=pure (ps.zip us)):Jv K fd ps []:=by
 obtain ⟨oc,od,kV,doc,pm,an,cdv,ct,osl,rfl,lk,hcd⟩:=F.ex;exact .all (h kV doc pm an cdv ct)
theorem qbk {x qual:Str} {st:Stmt} {f:Ac} {oc:Ab} {od an:Option Ac} {osl:Array (Option Ab)} {kV doc pm cdv ct:Ab} (l:K.lookup f=some ⟨oc,od,.func (PySem.W.fnOf x qual (j5 st) (ju st) (qh st) .none kV doc pm an cdv ct),osl⟩)
  (c:PySem.W.codeIn K cdv qual=true) (k:PySem.W.keepIn K (.ref f)=true):Fun K x qual st f (PySem.W.fnOf x qual (j5 st) (ju st) (qh st) .none kV doc pm an cdv ct):=⟨⟨oc,od,kV,doc,pm,an,cdv,ct,osl,rfl,l,c⟩,k⟩
end
theorem wo {A:Around} {k:Nat} (hr:Room k A):A.units+1<cLine:=Cb (Nat.add_le_add_left (O0:1≤64) _) hr.units
section
variable {X:Cx}
theorem pv (i:Nat) {x:Str} {pos:Pos} (hN:X.N[i]?=some x:=by rfl) (hv:Vis X.env.scope x:=by first | exact Or.inl rfl | exact Or.inr (Or.inl rfl) | exact Or.inr (Or.inr rfl)) (hd:(x==("__debug__":Str))=false:=by decide)
  (hcd:(x==("__classdict__":Str))=false:=by decide):PE X (.Name x pos) (qG i):=qfw hN hv hd hcd
end
theorem JT {A B:Prop} (h:B):if false=true then A else B:=by
 rw [if_neg Ak];exact h
theorem jk {A B:Prop} (h:A):if true=true then A else B:=by
 rw [if_pos rfl];exact h
theorem qiu {c A B:Prop} [Decidable c] (h1:c→A) (h2:¬ c→B):if c then A else B:=by
 by_cases h:c
 ·rw [if_pos h];exact h1 h
 ·rw [if_neg h];exact h2 h
def qk (H H':Hp):Prop:=∀ b o,H b=some o→H' b=some o
theorem qk.refl (H:Hp):qk H H:=fun _ _ h=>h
theorem qk.trans {H H1 H2:Hp} (a:qk H H1) (b:qk H1 H2):qk H H2:=fun c o h=>b c o (a c o h)
theorem qk.free {H H':Hp} (e:qk H H') {l:Ac} (h:H' l=Option.none):H l=Option.none:=by
 cases q:H l with
 | none=>rfl
 | some o=>
  rw [e l o q] at h;cases h
theorem qk.seq {K:Frag} {H H':Hp} {a:Ac} {xs:List V} (e:qk H H') (h:SqL K H a xs):SqL K H' a xs:=by
 rcases h with (h | ⟨o,h⟩) | h
 ·exact .inl (.inl (e _ _ h))
 ·exact .inl (.inr ⟨o,e _ _ h⟩)
 ·exact .inr h
section
variable {κ:Type} [DecidableEq κ]
def zL (kvs:List (κ×V)) (k:κ):Option V:=(kvs.find? fun kv=>decide (kv.1=k)).map (·.2)
def qS (kvs:List (κ×V)) (k:κ) (v:V):List (κ×V):=
 if (kvs.any fun kv=>decide (kv.1=k))=true then kvs.map (fun kv=>if kv.1=k then (kv.1,v) else kv) else kvs++[(k,v)]
theorem zV {p:κ×V} {r:List (κ×V)} {k:κ} (e:p.1=k):zL (p::r) k=some p.2:=by simp [zL,B2,e]
theorem zW {p:κ×V} {r:List (κ×V)} {k:κ} (e:¬ p.1=k):zL (p::r) k=zL r k:=by simp [zL,B2,e]
theorem vz (k:κ):∀ kvs:List (κ×V),(kvs.any fun kv=>decide (kv.1=k))=(zL kvs k).isSome
 | []=>rfl
 | p::r=>by
  rw [Ct]
  by_cases e:p.1=k
  ·simp only [zV e,Am e,Bool.true_or,Option.isSome_some]
  ·rw [zW e,Ao e,Dg];exact vz k r
theorem Ym (k j:κ) (y:V):∀ kvs:List (κ×V),zL (kvs.map fun kv=>if kv.1=k then (kv.1,y) else kv) j=(zL kvs j).map fun x=>if j=k then y else x
 | []=>rfl
 | p::r=>by
  have ih:=Ym k j y r;rw [Bb]
  by_cases h:p.1=k
  ·rw [if_pos h]
   by_cases e:p.1=j
   ·rw [zV (p:=(p.1,y)) e,zV e,Dr,if_pos (e.symm.trans h)]
   ·rw [zW (p:=(p.1,y)) e,zW e,ih]
  ·rw [if_neg h]
   by_cases e:p.1=j
   ·rw [zV (p:=p) e,zV e,Dr,if_neg (fun z=>h (e.trans z))]
   ·rw [zW (p:=p) e,zW e,ih]
theorem WX (k j:κ) (y:V):∀ kvs:List (κ×V),zL kvs k=none→zL (kvs++[(k,y)]) j=if j=k then some y else zL kvs j
 | [],_=>by
  by_cases e:k=j
  ·rw [if_pos e.symm];exact zV (p:=(k,y)) e
  ·rw [if_neg (fun z=>e z.symm)];exact zW (p:=(k,y)) e
 | p::r,hn=>by
  rw [List.cons_append];have hk:¬ p.1=k:=fun z=>by rw [zV z] at hn;cases hn
  rw [zW hk] at hn;have ih:=WX k j y r hn
  by_cases e:p.1=j
  ·rw [zV e,zV e,if_neg (fun z=>hk (e.trans z))]
  ·rw [zW e,zW e,ih]
theorem valV_put (kvs:List (κ×V)) (k j:κ) (y:V):zL (qS kvs k y) j=if j=k then some y else zL kvs j:=by
 unfold qS
 by_cases a:(kvs.any fun kv=>decide (kv.1=k))=true
 ·rw [if_pos a,Ym];rw [vz] at a
  by_cases e:j=k
  ·obtain ⟨x,hx⟩:=Cr.mp a;rw [if_pos e,e,hx,Dr,if_pos rfl]
  ·rw [if_neg e];cases zL kvs j with
   | none=>rfl
   | some x=>rw [Dr,if_neg e]
 ·rw [if_neg a];refine WX k j y kvs ?_;rw [vz] at a;cases q:zL kvs k with
  | none=>rfl
  | some x=>rw [q] at a;exact (a rfl).elim
theorem vK (kvs:List (κ×V)) (k:κ) (v:V):(qS kvs k v).length≤kvs.length+1:=by
 unfold qS;split
 ·rw [Aj];omega
 ·rw [Ax,Bj,List.length_nil];omega
theorem vy.isSome_eq {o:Option V} {u:Option Ab} (r:vy o u):o.isSome=u.isSome:=by
 cases o with
 | none=>cases u with
  | none=>rfl
  | some _=>exact (show False from r).elim
 | some _=>cases u with
  | none=>exact (show False from r).elim
  | some _=>rfl
theorem vy.getD {o:Option V} {u:Option Ab} {d:V} {d':Ab} (r:vy o u) (rd:qz d d'):qz (o.getD d) (u.getD d'):=by
 cases o with
 | none=>cases u with
  | none=>exact rd
  | some _=>exact (show False from r).elim
 | some _=>cases u with
  | none=>exact (show False from r).elim
  | some _=>exact r
theorem KV.val {kvs:List (κ×V)} {vs:List (κ×Ab)} (r:KV kvs vs) (k:κ):vy (zL kvs k) (valueAt vs k):=by
 unfold KV at r
 induction r with
 | nil=>exact True.intro
 | @cons p q ps qs h t ih=>
  obtain ⟨h1,h2⟩:=h
  by_cases e:p.1=k
  ·have e':q.1=k:=h1.symm.trans e;have b:valueAt (q::qs) k=some q.2:=by simp [valueAt,B2,e']
   rw [zV e,b];exact h2
  ·have e':¬ q.1=k:=fun z=>e (h1.trans z);have b:valueAt (q::qs) k=valueAt qs k:=by simp [valueAt,B2,e']
   rw [zW e,b];exact ih
theorem KV.any {kvs:List (κ×V)} {vs:List (κ×Ab)} (r:KV kvs vs) (k:κ):(kvs.any fun kv=>decide (kv.1=k))=vs.any fun kv=>decide (kv.1=k):=by
 unfold KV at r
 induction r with
 | nil=>rfl
 | cons h t ih=>rw [Ct,Ct,ih,h.1]
theorem KV.repl {kvs:List (κ×V)} {vs:List (κ×Ab)} (r:KV kvs vs) (k:κ) {y:V} {u:Ab} (ry:qz y u):
  KV (kvs.map fun kv=>if kv.1=k then (kv.1,y) else kv) (vs.map fun kv=>if kv.1=k then (kv.1,u) else kv):=by
 unfold KV at r ⊢
 induction r with
 | nil=>exact .nil
 | @cons p q ps qs h t ih=>
  rw [Bb,Bb];refine .cons ?_ ih;obtain ⟨h1,h2⟩:=h
  by_cases e:p.1=k
  ·rw [if_pos e,if_pos (h1.symm.trans e)];exact ⟨h1,ry⟩
  ·rw [if_neg e,if_neg (fun z=>e (h1.trans z))];exact ⟨h1,h2⟩
theorem KV.put {kvs:List (κ×V)} {vs:List (κ×Ab)} (r:KV kvs vs) (k:κ) {y:V} {u:Ab} (ry:qz y u):KV (qS kvs k y) (stored vs k u):=by
 unfold qS stored;rw [r.any k]
 by_cases e:(vs.any fun kv=>decide (kv.1=k))=true
 ·rw [if_pos e,if_pos e];exact r.repl k ry
 ·rw [if_neg e,if_neg e];exact Paired.snoc r ⟨rfl,ry⟩
theorem KV.keys {kvs:List (κ×V)} {vs:List (κ×Ab)} (r:KV kvs vs):kvs.map (·.1)=vs.map (·.1):=by
 unfold KV at r
 induction r with
 | nil=>rfl
 | cons h t ih=>rw [Bb,Bb,ih,h.1]
theorem KV.length {kvs:List (κ×V)} {vs:List (κ×Ab)} (r:KV kvs vs):kvs.length=vs.length:=Paired.length r
end
theorem Wo {P:Program} {w:World} {k:Key} {u:Ab} (r:qz (kV k) u):(zc P w).is k u=true:=by
 cases k with
 | inl i=>obtain ⟨t,e⟩:=(show ∃ t,u=Value.int i t from r);subst e;exact YX P w i t
 | inr x=>obtain ⟨t,e⟩:=(show ∃ t,u=Value.str x t from r);subst e;exact YW P w x t
theorem yc {P:Program} {w:World}:∀ {ks:List Key} {us:List Ab},qK (ks.map kV) us→ItemsAre (zc P w) ks us
 | [],_,r=>by rw [List.map_nil] at r;cases r;exact .nil
 | k::ks,_,r=>by
  rw [Bb] at r;cases r with
  | cons h t=>exact .cons (Wo h) (yc t)
abbrev KT (H:Hp):List (List Key×V)→List (List Key×Ac×Ab)→Prop:=Paired fun p q=>p.1=q.1∧H q.2.1=some (.tup (p.1.map kV))∧qz p.2 q.2.2
theorem KT.val {H:Hp} {kvs:List (List Key×V)} {xs:List (List Key×Ac×Ab)} (r:KT H kvs xs) (k:List Key):vy (zL kvs k) ((atKey xs k).map (·.2)):=by
 induction r with
 | nil=>exact True.intro
 | @cons p q ps qs h t ih=>
  obtain ⟨h1,_,h2⟩:=h
  by_cases e:p.1=k
  ·have e':q.1=k:=h1.symm.trans e;have b:atKey (q::qs) k=some q.2:=by simp [atKey,B2,e']
   rw [zV e,b];exact h2
  ·have e':¬ q.1=k:=fun z=>e (h1.trans z);have b:atKey (q::qs) k=atKey qs k:=by simp [atKey,B2,e']
   rw [zW e,b];exact ih
theorem KT.repl {H:Hp} {kvs:List (List Key×V)} {xs:List (List Key×Ac×Ab)} (r:KT H kvs xs) (k:List Key) {y:V} {u:Ab} (ry:qz y u):
  KT H (kvs.map fun kv=>if kv.1=k then (kv.1,y) else kv) (xs.map (putAt k u)):=by
 induction r with
 | nil=>exact .nil
 | @cons p q ps qs h t ih=>
  rw [Bb,Bb];refine .cons ?_ ih;obtain ⟨h1,h2,h3⟩:=h;unfold putAt
  by_cases e:p.1=k
  ·rw [if_pos e,if_pos (h1.symm.trans e)];exact ⟨h1,h2,ry⟩
  ·rw [if_neg e,if_neg (fun z=>e (h1.trans z))];exact ⟨h1,h2,h3⟩
theorem KT.put {H:Hp} {kvs:List (List Key×V)} {xs:List (List Key×Ac×Ab)} (r:KT H kvs xs) (k:List Key) {b:Ac} {y:V} {u:Ab} (hb:H b=some (.tup (k.map kV))) (ry:qz y u):
  KT H (qS kvs k y) (storedH xs k b u):=by
 have e:(kvs.any fun kv=>decide (kv.1=k))=(atKey xs k).isSome:=by
  rw [vz,(r.val k).isSome_eq,Dv]
 unfold qS storedH;rw [e]
 by_cases q:(atKey xs k).isSome=true
 ·rw [if_pos q,if_pos q];exact r.repl k ry
 ·rw [if_neg q,if_neg q];exact Paired.snoc r ⟨rfl,hb,ry⟩
theorem KT.keeps {H H':Hp} {kvs:List (List Key×V)} {xs:List (List Key×Ac×Ab)} (r:KT H kvs xs) (ht:∀ b ys,H b=some (.tup ys)→H' b=some (.tup ys)):KT H' kvs xs:=
 Paired.mapP r fun _ _ z=>⟨z.1,ht _ _ z.2.1,z.2.2⟩
section
variable {P:Program} {w:World} {H:Hp} {h:Heap} {a:Ac}
theorem qew {u:HO} (ok:HOk P w H h) (e:Rd H a u):zt P w H h a u:=e.ok ok
theorem WB {kvs:List (Key×V)} (ok:HOk P w H h) (e:Rd H a (.dK kvs)):kvs.length≤Af∧(a==sysModules)=false∧∃ vs,KV kvs vs∧h.DictOf (zc P w) a vs:=
 show zt P w H h a (.dK kvs) from qew ok e
theorem qe9 {kvs:List (Key×V)} (ok:HOk P w H h) (e:H a=some (.dK kvs)):kvs.length≤Af∧(a==sysModules)=false∧∃ vs,KV kvs vs∧h.DictOf (zc P w) a vs:=WB ok (.inl e)
theorem V5 {ks:List Key} (ok:HOk P w H h) (e:H a=some (.tup (ks.map kV))):(tupleKind (zc P w)).is h ks a:=by
 obtain ⟨_,its,r,o,h1,h2,n,h3⟩:=(show zt P w H h a (.tup (ks.map kV)) from ok a _ e);exact ⟨o,its.toArray,n,h1,h2,h3,by simpa using yc r⟩
theorem WA {kvs:List (List Key×V)} (ok:HOk P w H h) (e:Rd H a (.dT kvs)):kvs.length≤Af∧(a==sysModules)=false∧
  ∃ xs,KT H kvs xs∧h.DictOfH (tupleKind (zc P w)) a xs:=by
 obtain ⟨z,y,xs,r,o,es,ep,h1,h2,h3,h4,h5⟩:=(show zt P w H h a (.dT kvs) from qew ok e);refine ⟨z,y,xs,r,o,es,ep,h1,h2,h3,h4,fun x hx=>?_,h5⟩;have all:∀ {l:List (List Key×V)} {m:List (List Key×Ac×Ab)},KT H l m→∀ x∈m,(tupleKind (zc P w)).is h x.1 x.2.1:=by
  intro l m q
  induction q with
  | nil=>intro x hx;exact nomatch hx
  | @cons p q ps qs hq t ih=>
   intro x hx;rcases Av.mp hx with e | hx
   ·subst e;exact V5 ok (by rw [← hq.1];exact hq.2.1)
   ·exact ih x hx
 exact all r x hx
theorem qe7 {kvs:List (List Key×V)} (ok:HOk P w H h) (e:H a=some (.dT kvs)):kvs.length≤Af∧(a==sysModules)=false∧
  ∃ xs,KT H kvs xs∧h.DictOfH (tupleKind (zc P w)) a xs:=WA ok (.inl e)
end
def jL (H:Hp) (a:Ac) (y:V) (r:Option V):Prop:=
 (∃ kvs k,Rd H a (.dK kvs)∧y=kV k∧r=zL kvs k)∨∃ kvs k b,Rd H a (.dT kvs)∧y= .ref b∧H b=some (.tup (k.map kV))∧r=zL kvs k
def wC (H:Hp) (a:Ac) (y v:V) (H':Hp):Prop:=
 (∃ kvs k,H a=some (.dK kvs)∧y=kV k∧kvs.length<Af∧H'=upd H a (.dK (qS kvs k v)))∨
 ∃ kvs k b,H a=some (.dT kvs)∧y= .ref b∧H b=some (.tup (k.map kV))∧kvs.length<Af∧H'=upd H a (.dT (qS kvs k v))
theorem jL.k {H:Hp} {a:Ac} {kvs:List (Key×V)} {k:Key} (e:H a=some (.dK kvs)):jL H a (kV k) (zL kvs k):= .inl ⟨kvs,k,.inl e,rfl,rfl⟩
theorem wC.k {H:Hp} {a:Ac} {kvs:List (Key×V)} {k:Key} {v:V} (e:H a=some (.dK kvs)) (hl:kvs.length<Af):wC H a (kV k) v (upd H a (.dK (qS kvs k v))):= .inl ⟨kvs,k,e,rfl,hl,rfl⟩
section
variable {X:Cx} {pins:List (Ac×Obj)} {σ:St} {H:Hp} {s:Ae} {a:Ac} {y v:V} {u r:Ab} {o:Option V} {A:Around} {E:Ab→Ae→Prop}
theorem Inv.big (I:Inv X pins σ H s):sysModules<s.heap.objs.size:=by
 have h:Ap<s.heap.objs.size:=(I.mod.glob.keeps I.bk).lt;exact Nat.lt_trans O0 h
theorem Qy {Q:Ab→Ae→Prop} (hu:A.units+1<cLine) (I:Inv X pins σ H s) (g:jL H a y (some v)) (ry:qz y u) (h:∀ w' s',Inv X pins σ H s'→qz v w'→Q w' s'):
  wpAny (model X.prog X.w) A (getItem (.ref a) u) Q E s:=by
 rcases g with ⟨kvs,k,e,ey,l⟩ | ⟨kvs,k,b,e,ey,eb,l⟩
 ·subst ey;obtain ⟨z,hd,vs,rel,dd⟩:=WB I.hok e;obtain ⟨w',hw,rw'⟩:=vy.some_of (v:=v) (o:=valueAt vs k) (by rw [l];exact rel.val k)
  exact wpAny_getItem_of (Wo ry) dd.mapOf hw (h w' _ (I.tok _) rw')
 ·subst ey;cases (show u=Value.ref b from ry);obtain ⟨z,hd,xs,rel,dd⟩:=WA I.hok e;obtain ⟨w',hw,rw'⟩:=vy.some_of (v:=v) (o:=(atKey xs k).map (·.2)) (by rw [l];exact rel.val k)
  obtain ⟨p,hp,hp2⟩:=C7.mp hw;refine wpAny_getItem_heap (Do hu) (V5 I.hok eb) dd hp ?_;rw [hp2];exact h w' _ (I.tok _) rw'
theorem d_in {Q:Ab→Ae→Prop} (hu:A.units+1<cLine) (I:Inv X pins σ H s) (g:jL H a y o) (ry:qz y u) (h:∀ s',Inv X pins σ H s'→Q (.bool o.isSome) s'):
  wpAny (model X.prog X.w) A (compareOp .In u (.ref a)) Q E s:=by
 rcases g with ⟨kvs,k,e,ey,l⟩ | ⟨kvs,k,b,e,ey,eb,l⟩
 ·subst ey;obtain ⟨z,hd,vs,rel,dd⟩:=WB I.hok e;refine wpAny_in_of (Wo ry) hd dd.mapOf ?_;rw [← (rel.val k).isSome_eq,← l];exact h _ (I.tok _)
 ·subst ey;cases (show u=Value.ref b from ry);obtain ⟨z,hd,xs,rel,dd⟩:=WA I.hok e;refine wpAny_in_heap (Do hu) (V5 I.hok eb) hd dd ?_;have q:=(rel.val k).isSome_eq;rw [Dv] at q;rw [← q,← l];exact h _ (I.tok _)
theorem qd3 {Q:Ab→Ae→Prop} (hu:A.units+1<cLine) (I:Inv X pins σ H s) (g:jL H a y o) (ry:qz y u) (h:∀ s',Inv X pins σ H s'→Q (.bool (!o.isSome)) s'):
  wpAny (model X.prog X.w) A (compareOp .NotIn u (.ref a)) Q E s:=by
 rcases g with ⟨kvs,k,e,ey,l⟩ | ⟨kvs,k,b,e,ey,eb,l⟩
 ·subst ey;obtain ⟨z,hd,vs,rel,dd⟩:=WB I.hok e;refine wpAny_notIn_of (Wo ry) hd dd.mapOf ?_;rw [← (rel.val k).isSome_eq,← l];exact h _ (I.tok _)
 ·subst ey;cases (show u=Value.ref b from ry);obtain ⟨z,hd,xs,rel,dd⟩:=WA I.hok e;refine wpAny_notIn_heap (Do hu) (V5 I.hok eb) hd dd ?_;have q:=(rel.val k).isSome_eq;rw [Dv] at q;rw [← q,← l];exact h _ (I.tok _)
theorem Yd {h':Heap} {t':Nat} {ob:HO} (I:Inv X pins σ H s) (mu:Mut (H a)) (hs:Heap.SameBut a s.heap h') (he:∃ q,h'.get? a=some q) (new:zt X.prog X.w (upd H a ob) h' a ob):
  Inv X pins σ (upd H a ob) {s with heap:=h',toks:=t'}:=
 I.write (x:=a) (e:=a) mu (.inl rfl) (fun b q hb z=>(hs.2 b hb).trans z) he new
theorem qbx {P:Program} {w:World} {H':Hp} {h':Heap} {kvs:List (Key×V)} {vs:List (Key×Ab)} (z:kvs.length≤Af) (hd:(a==sysModules)=false) (rel:KV kvs vs) (dd:h'.DictOf (zc P w) a vs):
  zt P w H' h' a (.dK kvs):=⟨z,hd,vs,rel,dd⟩
theorem Qx {H':Hp} {Q:Unit→Ae→Prop} (hu:A.units+1<cLine) (I:Inv X pins σ H s) (g:wC H a y v H') (ry:qz y u) (rv:qz v r) (h:∀ s',Inv X pins σ H' s'→Q () s'):
  wpAny (model X.prog X.w) A (setItem (.ref a) u r) Q E s:=by
 rcases g with ⟨kvs,k,e,ey,l,eH⟩ | ⟨kvs,k,b,e,ey,eb,l,eH⟩
 ·subst ey eH;obtain ⟨z,hd,vs,rel,dd⟩:=qe9 I.hok e;have hz:vs.length≤Af:=by rw [← rel.length];exact z
  have hl:(qS kvs k v).length≤Af:=by have:=vK kvs k v;omega
  refine wpAny_setItem_pairs (hsz:=hz) (Wo ry) dd fun h' dd' hs=>h _ ?_;have he:∃ q,h'.get? a=some q:=let ⟨q,_,_,hq,_⟩:=dd';⟨q,hq⟩;exact Yd I (by rw [e];exact True.intro) hs he (qbx hl hd (rel.put k rv) dd')
 ·subst ey eH;cases (show u=Value.ref b from ry);obtain ⟨z,hd,xs,rel,dd⟩:=qe7 I.hok e;have hz:xs.length≤Af:=by rw [← Paired.length rel];exact z
  have hl:(qS kvs k v).length≤Af:=by have:=vK kvs k v;omega
  refine wpAny_setItem_heap (hsz:=hz) (Do hu) (V5 I.hok eb) dd fun h' dd' hs=>h _ ?_;obtain ⟨q,es,ep,hq,h2,h3,h4,_,h5⟩:=dd';refine Yd I (by rw [e];exact True.intro) hs ⟨q,hq⟩ ⟨hl,hd,_,(rel.put k eb rv).keeps fun c ys ec=>?_,q,es,ep,hq,h2,h3,h4,h5⟩
  rw [qo (qa3 ec e (fun z=>nomatch z))];exact ec
end
section
variable {X:Cx} {pins:List (Ac×Obj)} {σ:St} {H:Hp} {s:Ae} {a:Ac} {kvs:List (Key×V)} {k:Key} {u:Ab} {A:Around} {E:Ab→Ae→Prop}
end
def qhe (i:Expr):Prop:=∀ ov iv,subscripted i false ov iv=operate [ov,iv] (getItem ov iv)
theorem X7 {prog:Program} {w:World} {A:Around} {E:Ab→Ae→Prop} {s:Ae} {env:Env} {value slice:Expr} {pos:Pos} {T id:String} {Q:Ab→Ae→Prop}
  (hl:typeLookup (.type T) "__getitem__"=pure (some (.builtin id))) (hs:qhe slice)
  (h:wpAny (model prog w) A (eval value env) (fun o s₁=>wpAny (model prog w) A (eval slice env) (fun i s₂=>s₂.TypeIs o T∧wpAny (model prog w) A (getItem o i) Q E s₂) E s₁) E s):
  wpAny (model prog w) A (eval (.Subscript value slice pos) env) Q E s:=by
 refine Subscript_ (Dq h (fun o s₁ h₁=>Dq h₁ (fun i s₂ h₂=>?_) fun _ _ x=>x) fun _ _ x=>x);obtain ⟨hT,h₂⟩:=h₂;unfold subscriptTail;refine Ai ?_;rw [getitemInPython_of_ne hT.not_modules];refine Ai (wpAny_specialOf hT hl ?_);have fin:wpAny (model prog w) A (subscripted slice false o i) (fun r s₃=>wpAny (model prog w) A (letTemporaryGo value o r>>=fun _=>pure r) Q E s₃) E s₂:=by
  rw [hs o i];exact wpAny_operating (Dq h₂ (fun r s₃ h₃=>Ai (wpAny_letTemporaryGo (A1 h₃))) fun _ _ x=>x)
 first
  | exact A1 (Ai fin)
  | exact Ai (A1 (Ai fin))
  | exact Ai fin
theorem Y7 {X:Cx} {pins:List (Ac×Obj)} {σ:St} {H:Hp} {s:Ae} {a:Ac} {y:V} {o:Option V} (I:Inv X pins σ H s) (g:jL H a y o):s.TypeIs (.ref a) "dict":=by
 rcases g with ⟨kvs,k,e,_,_⟩ | ⟨kvs,k,b,e,_,_,_⟩
 ·obtain ⟨_,_,vs,_,dd⟩:=WB I.hok e;exact dd.typeIs
 ·obtain ⟨_,_,xs,_,dd⟩:=WA I.hok e;exact dd.typeIs
def X3 (td ty:TE):TE:=fun σ H Q=>td σ H fun x H1=>ty σ H1 fun y H2=>∃ a v,x= .ref a∧jL H2 a y (some v)∧Q v H2
def tDIn (ty td:TE):TE:=fun σ H Q=>ty σ H fun y H1=>td σ H1 fun x H2=>∃ a o,x= .ref a∧jL H2 a y o∧Q (.bl o.isSome) H2
def qco (ty td:TE):TE:=fun σ H Q=>ty σ H fun y H1=>td σ H1 fun x H2=>∃ a o,x= .ref a∧jL H2 a y o∧Q (.bl (!o.isSome)) H2
def Q7 (td ty tv:TE):TS:=fun D σ H=>tv σ H fun v H1=>td σ H1 fun x H2=>ty σ H2 fun y H3=>∃ a H4,x= .ref a∧wC H3 a y v H4∧D.nx σ H4
section
variable {X:Cx} {o i e value:Expr} {pos pos' tpos:Pos} {td ty tv:TE}
theorem jt (hu:X.A.units+1<cLine) (ho:PE X o td) (hi:PE X i ty) (hs:qhe i):PE X (.Subscript o i pos) (X3 td ty):=by
 intro pins s σ H Q I h;refine X7 PySem.F.slot_dict_getitem.lookup hs (thn (ho pins s σ H _ I h) fun u s1 ⟨x,H1,I1,rx,q1⟩=>thn (hi pins s1 σ H1 _ I1 q1) fun iv s2 ⟨y,H2,I2,ry,a,v,ex,g,q2⟩=>?_);subst ex;obtain rfl:u=Value.ref a:=rx;exact ⟨Y7 I2 g,Qy hu I2 g ry fun w' s3 I3 rw'=>⟨v,H2,I3,rw',q2⟩⟩
theorem qf0 (hu:X.A.units+1<cLine) (hi:PE X i ty) (ho:PE X o td):PC X .In i o (tDIn ty td):=by
 intro pins s σ H Q I h;refine thn (hi pins s σ H _ I h) fun iv s1 ⟨y,H1,I1,ry,q1⟩=>thn (ho pins s1 σ H1 _ I1 q1) fun u s2 ⟨x,H2,I2,rx,a,ov,ex,g,q2⟩=>?_;subst ex;obtain rfl:u=Value.ref a:=rx;exact d_in hu I2 g ry fun s3 I3=>⟨.bl ov.isSome,H2,I3,rfl,q2⟩
theorem W5 (hu:X.A.units+1<cLine) (hi:PE X i ty) (ho:PE X o td):PC X .NotIn i o (qco ty td):=by
 intro pins s σ H Q I h;refine thn (hi pins s σ H _ I h) fun iv s1 ⟨y,H1,I1,ry,q1⟩=>thn (ho pins s1 σ H1 _ I1 q1) fun u s2 ⟨x,H2,I2,rx,a,ov,ex,g,q2⟩=>?_;subst ex;obtain rfl:u=Value.ref a:=rx;exact qd3 hu I2 g ry fun s3 I3=>⟨.bl (!ov.isSome),H2,I3,rfl,q2⟩
theorem vT (hu:X.A.units+1<cLine) (ho:PE X o td) (hi:PE X i ty) (hv:PE X value tv) (hs:swapsWith value (some (.Subscript o i pos')) pos.line X.env=pure false):
  PS X (.Assign [.Subscript o i pos'] value pos) (Q7 td ty tv):=by
 intro pins s σ H D I h;refine wpAny_Assign_Subscript (thn (hv pins s σ H _ I h) fun r s1 ⟨v,H1,I1,rv,q1⟩=>thn (ho pins s1 σ H1 _ I1 q1) fun u s2 ⟨x,H2,I2,rx,q2⟩=>thn (hi pins s2 σ H2 _ I2 q2) fun iv s3 ⟨y,H3,I3,ry,a,H4,ex,g,q3⟩=>?_) hs;subst ex;obtain rfl:u=Value.ref a:=rx;exact Qx hu I3 g ry rv fun s4 I4=>⟨σ,H4,I4,q3⟩
end
theorem Y6 {P:Program} {w:World} {H:Hp} (h:Heap) (hb:sysModules<h.objs.size):zt P w H (h.push {cls:= .type "dict",data:= .dict #[]}) h.objs.size (.dK []):=
 ⟨C6 _,Bv.mpr (Ne.symm (B1 hb)),[],.nil,Heap.DictOf.new h⟩
def qfg:TE:=fun _ H Q=>∀ p,H p=none→Q (.ref p) (upd H p (.dK []))
section
variable {X:Cx} {pos:Pos}
theorem qau:PE X (.Dict [] [] pos) qfg:=fun pins s σ H Q I h=>
 wpAny_Dict_empty ⟨.ref s.heap.objs.size,_,I.laid (a:=s.heap.objs.size) (o:= .dK []) (t':=s.toks) (fun _ _ q=>Ar _ q) (An _) (Y6 s.heap I.big),rfl,h _ (I.hok.fresh (An _))⟩
end
def yx:List (TE×TE)→St→Hp→(List (V×V)→Hp→Prop)→Prop
 | [],_,H,Q=>Q [] H
 | (tk,tv)::r,σ,H,Q=>tk σ H fun x H1=>tv σ H1 fun y H2=>yx r σ H2 fun ps H3=>Q ((x,y)::ps) H3
abbrev VV:List (V×V)→List (Ab×Ab)→Prop:=Paired fun p q=>qz p.1 q.1∧qz p.2 q.2
def PPs (X:Cx) (pos:Pos) (keys:List (Option Expr)) (values:List Expr) (trs:List (TE×TE)):Prop:=
 ∀ (pins:List (Ac×Obj)) (s:Ae) (σ:St) (H:Hp) (Q:List (V×V)→Hp→Prop),Inv X pins σ H s→yx trs σ H Q→
  wpAny (model X.prog X.w) X.A (evalPairs (pairTrees keys values X.env pos)) (fun vs s'=>∃ ps H',Inv X pins σ H' s'∧VV ps vs∧Q ps H') X.xe s
theorem vU {X:Cx} {pos:Pos}:PPs X pos [] [] []:=fun pins s σ H Q I h=>pairTrees_nil_walk ⟨[],H,I,.nil,h⟩
theorem zl {X:Cx} {pos:Pos} {k v:Expr} {ks:List (Option Expr)} {vs:List Expr} {tk tv:TE} {trs:List (TE×TE)} (hk:PE X k tk) (hv:PE X v tv) (hr:PPs X pos ks vs trs):
  PPs X pos (some k::ks) (v::vs) ((tk,tv)::trs):=fun pins s σ H Q I h=>
 pairTrees_cons_walk (thn (hk pins s σ H _ I h) fun u s1 ⟨x,H1,I1,rx,q1⟩=>thn (hv pins s1 σ H1 _ I1 q1) fun w2 s2 ⟨y,H2,I2,ry,q2⟩=>
  thn (hr pins s2 σ H2 _ I2 q2) fun ws s3 ⟨ps,H3,I3,rel,q3⟩=>⟨(x,y)::ps,H3,I3,.cons ⟨rx,ry⟩ rel,q3⟩)
def jb (kvs more:List (Key×V)):List (Key×V):=more.foldl (fun acc kv=>qS acc kv.1 kv.2) kvs
theorem KV.merge:∀ {more:List (Key×V)} {rs:List (Key×Ab)} {kvs:List (Key×V)} {vs:List (Key×Ab)},KV more rs→KV kvs vs→KV (jb kvs more) (merged vs rs):=by
 intro more rs kvs vs r;unfold KV at r
 induction r generalizing kvs vs with
 | nil=>intro q;exact q
 | @cons p q ps qs h t ih=>
  intro r0;have e:KV (qS kvs p.1 p.2) (stored vs q.1 q.2):=by
   have:=r0.put p.1 h.2;rw [← h.1];exact this
  exact ih e
theorem v9:∀ (more kvs:List (Key×V)),(jb kvs more).length≤kvs.length+more.length
 | [],kvs=>by show kvs.length≤kvs.length+0;omega
 | p::r,kvs=>by
  have h1:=v9 r (qS kvs p.1 p.2);have h2:=vK kvs p.1 p.2;show (jb (qS kvs p.1 p.2) r).length≤_;rw [Bj];omega
theorem WD {P:Program} {w:World}:∀ {kvs:List (Key×V)} {ws:List (Ab×Ab)},VV (kvs.map fun kv=>(kV kv.1,kv.2)) ws→∃ rs,Carries (zc P w) ws rs∧KV kvs rs
 | [],_,r=>by rw [List.map_nil] at r;cases r;exact ⟨[],True.intro,.nil⟩
 | p::kvs,_,r=>by
  rw [Bb] at r;cases r with
  | @cons a b as bs h t=>
   obtain ⟨rs,c,q⟩:=WD (P:=P) (w:=w) t;obtain ⟨b1,b2⟩:=b;exact ⟨(p.1,b2)::rs,⟨Wo h.1,rfl,c⟩,.cons ⟨rfl,h.2⟩ q⟩
def QW (trs:List (TE×TE)):TE:=fun σ H Q=>∀ p,H p=none→yx trs σ (upd H p (.dK [])) fun ps H2=>H2 p=some (.dK [])∧∃ kvs:List (Key×V),ps=kvs.map (fun kv=>(kV kv.1,kv.2))∧kvs.length≤15∧Q (.ref p) (upd H2 p (.dK (jb [] kvs)))
theorem vW {X:Cx} {pos:Pos} {keys:List (Option Expr)} {values:List Expr} {trs:List (TE×TE)} (h:PPs X pos keys values trs) (hall:keys.all (·.isSome)=true) (hl:keys.length=values.length) (h0:keys≠[])
  (h15:keys.length≤15):PE X (.Dict keys values pos) (QW trs):=by
 intro pins s σ H Q I q;have hn:=I.hok.fresh (An s.heap.objs.size);have I1:=I.laid (a:=s.heap.objs.size) (o:= .dK []) (h':=s.heap.push {cls:= .type "dict",data:= .dict #[]}) (t':=s.toks) (fun _ _ q=>Ar _ q) (An _) (Y6 s.heap I.big);refine wpAny_Dict_walk (knd:=zc X.prog X.w) hall hl h0 h15 (thn (h pins _ σ _ _ I1 (q _ hn)) fun ws s2 ⟨ps,H2,I2,rel,e,kvs,ep,lk,q2⟩=>?_);subst ep;obtain ⟨rs,c,rk⟩:=WD (P:=X.prog) (w:=X.w) rel;obtain ⟨z,hd,vs0,r0,dd⟩:=qe9 I2.hok e;cases r0;refine ⟨rs,c,dd,fun h' dd' hs=>⟨.ref s.heap.objs.size,_,?_,rfl,q2⟩⟩;have hz:(jb [] kvs).length≤Af:=by
  have h1:=v9 kvs [];rw [List.length_nil] at h1;rw [sizeLine_eq];omega
 have he:∃ q,h'.get? s.heap.objs.size=some q:=let ⟨q,_,_,hq,_⟩:=dd';⟨q,hq⟩;exact Yd I2 (by rw [e];exact True.intro) hs he (qbx hz hd (rk.merge .nil) dd')
structure M2 (X:Cx) (o:Expr) (m:Str) (apos:Pos) (e f:Expr) (cpos:Pos):Prop where
 base:attributeBase o m X.env (eval o X.env)=eval o X.env
 few:((backTo cpos (starEach [e,f] X.env)).all (fun x=>!x.1)&&(backToKw cpos (keywordEach [] X.env)).all (fun x=>x.1.isSome)
  &&decide (([e,f]:List Expr).length+([]:List Keyword).length+(if ([]:List Keyword).isEmpty then 0 else 1)<30))=true
 line:(apos.endLine==cpos.line)=true
 trees:backTo cpos (starEach [e,f] X.env)=[(false,eval e X.env),(false,eval f X.env)]
def IsD (H:Hp) (a:Ac):Prop:=(∃ kvs,Rd H a (.dK kvs))∨∃ kvs,Rd H a (.dT kvs)
theorem qgo {X:Cx} {pins:List (Ac×Obj)} {σ:St} {H:Hp} {s:Ae} {a:Ac} (I:Inv X pins σ H s) (d:IsD H a):
  s.TypeIs (.ref a) "dict"∧(∀ b,Value.ref a= .ref b→∃ ob,s.heap.get? b=some ob∧ob.dict=none)∧(a==sysModules)=false:=by
 rcases d with ⟨kvs,e⟩ | ⟨kvs,e⟩
 ·obtain ⟨_,hd,vs,_,dd⟩:=WB I.hok e;refine ⟨dd.typeIs,fun b q=>?_,hd⟩;cases q;obtain ⟨ob,_,_,h1,h2,_⟩:=dd;exact ⟨ob,h1,h2.2.1⟩
 ·obtain ⟨_,hd,xs,_,dd⟩:=WA I.hok e;refine ⟨dd.typeIs,fun b q=>?_,hd⟩;cases q;obtain ⟨ob,_,_,h1,h2,_⟩:=dd;exact ⟨ob,h1,h2.2.1⟩
section
variable {X:Cx} {pins:List (Ac×Obj)} {σ:St} {H:Hp} {s:Ae} {a:Ac} {y d:V} {u r:Ab} {o:Option V} {A:Around} {E:Ab→Ae→Prop}
theorem qgz {Q:Ab→Ae→Prop} (hu:A.units+1<cLine) (I:Inv X pins σ H s) (g:jL H a y o) (ry:qz y u) (rd:qz d r) (h:∀ w' s',Inv X pins σ H s'→qz (o.getD d) w'→Q w' s'):
  wpAny (model X.prog X.w) A (call (.builtin "dict.get") [.ref a,u,r]) Q E s:=by
 rcases g with ⟨kvs,k,e,ey,l⟩ | ⟨kvs,k,b,e,ey,eb,l⟩
 ·subst ey;obtain ⟨z,hd,vs,rel,dd⟩:=WB I.hok e;refine call_meetsIn PySem.F.slot_dict_get dd.typeIs PySem.F.entry_dict_get (PySem.F.args_dict_get_3 _ _ _) (meets_dict_get_default (zc X.prog X.w) a (Wo ry) hd r) ⟨_,dd.mapOf,h _ _ (I.tok _) ?_⟩;rw [l];exact (rel.val k).getD rd
 ·subst ey;cases (show u=Value.ref b from ry);obtain ⟨z,hd,xs,rel,dd⟩:=WA I.hok e;refine call_meetsIn PySem.F.slot_dict_get dd.typeIs PySem.F.entry_dict_get (PySem.F.args_dict_get_3 _ _ _) (meetsH_dict_get_default (tupleKind (zc X.prog X.w)) a b hd r) ⟨Do hu,k,xs,V5 I.hok eb,dd,h _ _ (I.tok _) ?_⟩;rw [l];exact (rel.val k).getD rd
end
def Xl (td ty tx:TE):TE:=fun σ H Q=>td σ H fun x H1=>∃ a,x= .ref a∧IsD H1 a∧ty σ H1 fun y H2=>tx σ H2 fun z H3=>∃ o,jL H3 a y o∧Q (o.getD z) H3
section
variable {X:Cx} {o e f:Expr} {apos cpos:Pos} {td ty tx:TE}
theorem Wc (hu:X.A.units+1<cLine) (ho:PE X o td) (he:PE X e ty) (hf:PE X f tx) (m:M2 X o "get" apos e f cpos):PE X (.Call (.Attribute o "get" apos) [e,f] [] cpos) (Xl td ty tx):=by
 intro pins s σ H Q I h;refine wpAny_Call_method m.base m.few m.line PySem.F.plainAttrs_dict PySem.F.slot_dict_get PySem.F.type_dict_get (thn (ho pins s σ H _ I h) fun u s1 ⟨x,H1,I1,rx,a,ex,d,q1⟩=>?_);subst ex;obtain rfl:u=Value.ref a:=rx;obtain ⟨t1,t2,_⟩:=qgo I1 d;refine ⟨t1,t2,?_⟩;rw [m.trees];refine Calls.callWith_builtin rfl (Calls.evalArgs_plain (Calls.spliced_cons (thn (he pins s1 σ H1 _ I1 q1) fun iv s2 ⟨y,H2,I2,ry,q2⟩=>
  Calls.spliced_cons (thn (hf pins s2 σ H2 _ I2 q2) fun fv s3 ⟨z,H3,I3,rz,ov,g,q3⟩=>Calls.spliced_nil ?_))))
 exact qgz hu I3 g ry rz fun w' s4 I4 rw'=>⟨_,H3,I4,rw',q3⟩
end
section
variable {X:Cx} {pins:List (Ac×Obj)} {σ:St} {H:Hp} {s:Ae} {a:Ac} {kvs:List (Key×V)} {A:Around} {E:Ab→Ae→Prop}
end
section
variable {X:Cx} {pins:List (Ac×Obj)} {σ:St} {H:Hp} {s:Ae} {a:Ac} {y:V} {u:Ab} {A:Around} {E:Ab→Ae→Prop}
end
section
variable {X:Cx}
end
section
variable {κ:Type} [DecidableEq κ]
end
end L2
set_option maxHeartbeats 4000000
set_option maxRecDepth 100000
namespace L2
open PySem PySem.Spec PyProof.Rows
theorem Inv.track {X:Cx} {pins:List (Ac×Obj)} {σ:St} {H:Hp} {s:Ae} {D:Ac} {o:HO} (I:Inv X pins σ H s) (f:VI X pins H D) (new:zt X.prog X.w (upd H D o) s.heap D o):Inv X pins σ (upd H D o) s:=by
 obtain ⟨f0,f1,f2,f3,f4,f5⟩:=f;show Inv X pins σ (upd H D o) {s with heap:=s.heap,gens:=s.gens,drawn:=s.drawn,toks:=s.toks}
 refine I.step (g':=s.gens) (d':=s.drawn) (t':=s.toks) (h':=s.heap) (ch:=[D]) (fun b hb=>?_) (fun b o _ _ _ e _=>e) (fun b o _ _ _ e _=>⟨o.slots,e⟩) (fun b ob hc e n=>?_) (fun b ob _ e=>⟨ob,e⟩)
  (fun b xs e=>?_) (fun b ob u e=>?_) (fun b ps e=>⟨#[],?_⟩) (fun m hm=>hm) (fun b u e=>?_) I.bare
 ·have z:b=D:=by simpa using hb
  subst z;exact ⟨f3,f1,f4,f5⟩
 ·rw [qo (fun z=>hc (by simp [z]))];exact n
 ·rw [qo (qr e f0)];exact e
 ·rw [qo (qr e f0)];exact e
 ·rw [qo (qr e f0),e];simp
 ·by_cases hb:b=D
  ·subst hb;rw [upd_same] at e;cases e;exact new
  ·rw [qo hb] at e;exact (I.hok b u e).stay (fun c v _ q=>q) (fun c q=>by rw [qo (qr q f0)];exact q) fun c xs q=>by rw [qo (qr q f0)];exact q
theorem vQ {env:Env} {f:Str×NameKind→List (Str×Ac)→Sem (ForInStep (List (Str×Ac)))} (h1:∀ n k cs,k≠ .free→f (n,k) cs=pure (.yield cs))
  (h2:∀ n cs c,env.cells.lookup n=some c→f (n,.free) cs=pure (.yield ((n,c)::cs))):∀ (names:List (Str×NameKind)) (acc:List (Str×Ac)),(∀ y∈names,y.2= .free→∃ c,env.cells.lookup y.1=some c)→
   ∃ cl,forIn names acc f=pure cl∧(∀ x c,cl.lookup x=some c→acc.lookup x=some c∨env.cells.lookup x=some c)∧(∀ x,(acc.lookup x).isSome=true→(cl.lookup x).isSome=true)∧
    ∀ y∈names,y.2= .free→(cl.lookup y.1).isSome=true
 | [],acc,_=>⟨acc,rfl,fun x c e=> .inl e,fun x e=>e,fun y hy=>absurd hy (by simp)⟩
 | (n,k)::r,acc,h=>by
  have hr:∀ y∈r,y.2= .free→∃ c,env.cells.lookup y.1=some c:=fun y hy=>h y (Bg _ hy)
  by_cases hk:k= .free
  ·subst hk;obtain ⟨c,hc⟩:=h (n,.free) Bi rfl;obtain ⟨cl,e,a1,a2,a3⟩:=vQ h1 h2 r ((n,c)::acc) hr;refine ⟨cl,by rw [Eh,h2 n acc c hc,pure_bind];exact e,fun x d hx=>?_,fun x hx=>a2 x ?_,fun y hy hf=>?_⟩
   ·rcases a1 x d hx with q | q
    ·rw [By] at q;cases z:x==n with
     | true=>
      rw [z] at q;have z':x=n:=by simpa using z
      subst z';cases q;exact .inr hc
     | false=>rw [z] at q;exact .inl q
    ·exact .inr q
   ·rw [By];cases x==n with
    | true=>rfl
    | false=>exact hx
   ·rcases Av.mp hy with z | z
    ·subst z;refine a2 n ?_;rw [By];simp
    ·exact a3 y z hf
  ·obtain ⟨cl,e,a1,a2,a3⟩:=vQ h1 h2 r acc hr;refine ⟨cl,by rw [Eh,h1 n k acc hk,pure_bind];exact e,a1,a2,fun y hy hf=>?_⟩
   rcases Av.mp hy with z | z
   ·subst z;exact absurd hf hk
   ·exact a3 y z hf
theorem WC {scope:Scope} {env:Env} (h:∀ y∈scope.names,y.2= .free→∃ c,env.cells.lookup y.1=some c):
  ∃ cl,closureFor scope env=pure cl∧(∀ x c,cl.lookup x=some c→env.cells.lookup x=some c)∧∀ y∈scope.names,y.2= .free→∃ c,cl.lookup y.1=some c:=by
 obtain ⟨cl,e,a1,_,a3⟩:=vQ (env:=env) (f:=fun x r=>if (x.2==NameKind.free)=true then (do let c ← cellOf env x.1;pure (ForInStep.yield ((x.1,c)::r))) else pure (ForInStep.yield r)) (fun n k cs hk=>by
  have z:(k==NameKind.free)=false:=by simpa using hk
  simp only [z,Bool.false_eq_true,if_false]) (fun n cs c hc=>by
  simp only [Dm,if_true,cellOf,hc,pure_bind]) scope.names [] h
 simp only [closureFor];refine ⟨cl,by rw [e,pure_bind],fun x c q=>?_,fun y hy hf=>Cr.mp (a3 y hy hf)⟩
 rcases a1 x c q with z | z
 ·cases z
 ·exact z
theorem yI {scope:Scope} {env:Env} {x:Str} (hcell:∀ y∈scope.names,y.2≠ .cell) (h:(relabel scope env).names.lookup x=some .cell∨(relabel scope env).names.lookup x=some .free):scope.names.lookup x=some .free:=by
 unfold relabel at h;dsimp only at h;generalize scope.names=l at h hcell
 induction l with
 | nil=>rcases h with h | h <;> cases h
 | cons y r ih=>
  obtain ⟨n,k⟩:=y;have hr:∀ y∈r,y.2≠ .cell:=fun y hy=>hcell y (Bg _ hy);have hk:k≠ .cell:=hcell (n,k) Bi;rw [Bb] at h;dsimp only at h;rw [By];cases hx:x==n with
  | true=>
   dsimp only
   by_cases hc:(k==NameKind.free&&env.scope.kind== .function&&env.kindOf n==some .cell)=true
   ·simp only [Al,Bd] at hc;rw [hc.1.1]
   ·rw [if_neg hc,By,hx] at h;dsimp only at h;rcases h with h | h
    ·exact absurd (Bh h) hk
    ·exact h
  | false=>
   dsimp only;refine ih ?_ hr
   by_cases hc:(k==NameKind.free&&env.scope.kind== .function&&env.kindOf n==some .cell)=true
   ·rw [if_pos hc,By,hx] at h;exact h
   ·rw [if_neg hc,By,hx] at h;exact h
theorem yJ {scope:Scope} {env:Env} {x:Str} (h:scope.names.lookup x=some .free):(relabel scope env).names.lookup x=some .cell∨(relabel scope env).names.lookup x=some .free:=by
 unfold relabel;dsimp only;generalize scope.names=l at h
 induction l with
 | nil=>cases h
 | cons y r ih=>
  obtain ⟨n,k⟩:=y;rw [By] at h;rw [Bb];dsimp only;cases hx:x==n with
  | true=>
   rw [hx] at h;have hk:k= .free:=Bh h;subst hk
   by_cases hc:(NameKind.free==NameKind.free&&env.scope.kind== .function&&env.kindOf n==some .cell)=true
   ·rw [if_pos hc,By,hx];exact .inl rfl
   ·rw [if_neg hc,By,hx];exact .inr rfl
  | false=>
   rw [hx] at h
   by_cases hc:(k==NameKind.free&&env.scope.kind== .function&&env.kindOf n==some .cell)=true
   ·rw [if_pos hc,By,hx];exact ih h
   ·rw [if_neg hc,By,hx];exact ih h
theorem Vo {scope:Scope} {env:Env} {x:Str} (h:scope.names.lookup x=some .free):¬ (relabel scope env).names.lookup x=some .local:=fun e=>by
 rcases yJ (env:=env) h with q | q <;> (rw [e] at q;cases q)
def cxC (X:Cx) (scope:Scope) (cl:List (Str×Ac)) (C:Ac) (N:List Str) (fp:List Ac) (s:Ae) (H:Hp):Cx where
 prog:=X.prog
 w:=X.w
 K:=X.K
 mg:=X.mg
 base:=X.base
 A:=X.A
 N:=N
 s₀:=s
 H₀:=H
 env:=compEnvC scope cl C X.env
 outer:=X.stack
 stack:=X.stack
 ex:=fp
 fn:=fun _=>false
 calm:=X.calm
 pn:=[]
 xe:=fun _ _=>False
def zm (js:List (Option Nat)) (σ:St):St:=js.map fun j=>match j with
 | some i=>(σ[i]?).join
 | none=>none
structure CompScope (sc scope:Scope) (NX N:List Str) (js:List (Option Nat)):Prop where
 cell:∀ y∈scope.names,y.2≠ .cell
 kind:scope.kind= .function
 names:∀ y∈scope.names,y.2= .local→scope.names.lookup y.1=some .local
 free:∀ y∈scope.names,y.2= .free→sc.names.lookup y.1=some .cell∨sc.names.lookup y.1=some .free
 len:js.length=N.length
 out:∀ p∈js.zip N,∀ j∈p.1,NX[j]?=some p.2∧scope.names.lookup p.2=some .free
def PF (X:Cx) (ifs:List Expr) (t:TT):Prop:=
 ∀ (pins:List (Ac×Obj)) (s:Ae) (σ:St) (H:Hp) (Q:Bool→Hp→Prop),Inv X pins σ H s→t σ H Q→
  wpAny (model X.prog X.w) X.A (forIn ifs true fun c r=>if r=true then do let ok ← isTrue c X.env (eval c X.env);pure (ForInStep.yield ok) else pure (ForInStep.yield r)) (TP X pins σ Q) X.xe s
def Jw:TT:=fun _ H Q=>Q true H
theorem zn {X:Cx}:PF X [] Jw:=fun _ _ _ H _ I h=>by
 rw [List.forIn_nil];exact A1 ⟨H,I,h⟩
theorem vG {X:Cx} {c:Expr} {t:TT} (hc:PT X c t):PF X [c] t:=fun pins s σ H Q I h=>by
 rw [Eh];simp only [if_true];rw [bind_assoc];refine Ai (thn (hc pins s σ H Q I h) fun b s1 q=>?_);rw [pure_bind];dsimp only;rw [List.forIn_nil];exact A1 q
section
variable {prog:Program} {w:World} {A:Around} {R:Result→Ae→Prop} {s:Ae}
theorem Yf {elt target iter:Expr} {ifs:List Expr} {scope:Scope} {pos:Pos} {it acc:Ab} {env:Env} (I:Nat→Ae→Prop)
  (turn:∀ n s,I n s→wpAny (model prog w) A (pyNext it) (fun r s₁=>match r with
   | none=>R (.ok .next) s₁
   | some v=>wpAny (model prog w) A (letOwnedTupleGo target it v) (fun _ s₀=>wpAny (model prog w) A (assign target env v) (fun _ s₂=>
     wpAny (model prog w) A (forIn ifs true fun c r=>if r=true then do let ok ← isTrue c env (eval c env);pure (ForInStep.yield ok) else pure (ForInStep.yield r)) (fun ok s₃=>
      if ok=true then wpAny (model prog w) A (eval elt env) (fun x s₄=>
       wpAny (model prog w) A (call (.builtin "list.append") [acc,x]) (fun _ s₅=>∃ m,m<n∧I m s₅) (fun _ _=>False) s₄) (fun _ _=>False) s₃
      else ∃ m,m<n∧I m s₃) (fun _ _=>False) s₂) (fun _ _=>False) s₀) (fun _ _=>False) s₁) (fun _ _=>False) s)
  (n:Nat) (h:I n s):codeAny (model prog w) A (.compLoop (.ListComp elt [⟨target,iter,ifs,0⟩] scope pos) 0 it acc env) R s:=by
 refine codeAny_loop rfl I (fun n s hI=>?_) n h;show wpAny _ A ((compTurn (.ListComp elt [⟨target,iter,ifs,0⟩] scope pos) 0 it acc env).onRaise (fun x=>do noteFrame x env;theTreesLotGoes x)) _ _ s
 refine wpAny_noted ?_;rw [compTurn_list];refine Dq (E:=fun _ _=>False) ?_ (fun _ _ q=>q) fun _ _ f=>f.elim;refine Ai (wpAny_standAt (Ai (thn (turn n s hI) (fun r s₁ h₁=>?_))));cases r with
 | none=>exact A1 h₁
 | some v=>
  refine Ai (thn h₁ fun _ s₀ h₀=>?_);refine Ai (thn h₀ (fun _ s₂ h₂=>Ai (thn h₂ (fun ok s₃ h₃=>?_))));cases ok with
  | false=>exact A1 ⟨rfl,h₃⟩
  | true=>
   exact Ai (Ai (thn h₃ (fun x s₄ h₄=>Ai (thn h₄ (fun _ s₅ h₅=>A1 (A1 ⟨rfl,h₅⟩))))))
end
def qcj (js:List (Option Nat)) (g:TG):Prop:=∀ (σ:St) (x:V) (H:Hp) (Q:St→Hp→Prop),g x (zm js σ) H Q→
 g x (zm js σ) H fun σ3 H3=>(σ3.length=(zm js σ).length∧∀ (i:Nat) v,(zm js σ)[i]?=some (some v)→σ3[i]?=some (some v))∧Q σ3 H3
def zK (J:It) (js:List (Option Nat)) (g:TG) (tt:TT) (te:TE) (σ:St) (H1:Hp) (Q:VK):Prop:=∃ W:Nat→Nat→List V→Hp→Prop,(∃ m,W 0 m [] H1)∧
 ∀ i m ys H',W i m ys H'→ys.length≤Af∧((J.stop i H'∧∀ D,H' D=none→Q (.ref D) (upd H' D (.lst ys)))∨
  (J.go i H'∧∃ N:List V→Hp→Prop,(∀ ys H,N ys H→∃ m',m'<m∧W (i+1) m' ys H)∧
   ∀ x H2,J.yld i H' x H2→g x (zm js σ) H2 fun σ3 H3=>tt σ3 H3 fun ok H4=>if ok=true then te σ3 H4 fun y H5=>N (ys++[y]) H5 else N ys H4))
def X4 (wi:TI) (js:List (Option Nat)) (g:TG) (tt:TT) (te:TE):TE:=fun σ H Q=>wi σ H fun J H1=>zK J js g tt te σ H1 Q
theorem zd {J:It} {js:List (Option Nat)} {g:TG} {tt:TT} {te:TE} {σ:St} {H1:Hp} {Q:VK} (n:Nat) (Pv:Nat→List V→Hp→Prop) (h0:Pv 0 [] H1) (hl:∀ i ys H,Pv i ys H→ys.length≤i) (hz:n≤Af)
  (hs:∀ i ys H,i<n→Pv i ys H→J.go i H∧∀ x H2,J.yld i H x H2→g x (zm js σ) H2 fun σ3 H3=>tt σ3 H3 fun ok H4=>if ok=true then te σ3 H4 fun y H5=>Pv (i+1) (ys++[y]) H5 else Pv (i+1) ys H4)
  (hd:∀ ys H,Pv n ys H→J.stop n H∧∀ D,H D=none→Q (.ref D) (upd H D (.lst ys))):zK J js g tt te σ H1 Q:=by
 refine ⟨fun i m ys H=>m=n - i∧i≤n∧Pv i ys H,⟨n,by simp,C6 _,h0⟩,?_⟩
 rintro i m ys H ⟨rfl,hi,p⟩;refine ⟨As (hl i ys H p) (As hi hz),?_⟩
 by_cases hlt:i<n
 ·obtain ⟨a,b⟩:=hs i ys H hlt p;exact .inr ⟨a,Pv (i+1),fun ys' H' p'=>⟨n - (i+1),⋯,rfl,hlt,p'⟩,b⟩
 ·have e:i=n:=⋯;subst e;exact .inl (hd ys H p)
theorem qB {js:List (Option Nat)} {k:Nat} (h:js[k]?=some none):qcj js (qC k):=fun σ x H Q q=>by
 refine ⟨⟨by rw [List.length_set],fun i v e=>?_⟩,q⟩
 by_cases hik:k=i
 ·subst hik;unfold zm at e;rw [Au,h] at e;cases e
 ·rw [Di hik];exact e
theorem Vz {K:Frag} {js:List (Option Nat)} {k l:Nat} (h:js[k]?=some none) (h':js[l]?=some none):qcj js (Y3 K 2 (JW (qC k) (JW (qC l) XT))):=fun σ x H Q q=>by
 obtain ⟨a,xs,e1,e2,e3,v,r,rfl,v2,r2,rfl,rfl,q⟩:=q;have key:∀ {i:Nat} {z:V},(zm js σ)[i]?=some (some z)→i≠k∧i≠l:=fun {i z} e=>by
  unfold zm at e;rw [Au] at e;refine ⟨fun q=>?_,fun q=>?_⟩
  ·subst q;rw [h] at e;cases e
  ·subst q;rw [h'] at e;cases e
 refine ⟨a,_,e1,e2,e3,v,_,rfl,v2,_,rfl,rfl,⟨by rw [List.length_set,List.length_set],fun i z e=>?_⟩,q⟩
 obtain ⟨n1,n2⟩:=key e;rw [Di (Ne.symm n2),Di (Ne.symm n1)];exact e
section
variable {X:Cx} {sc scope:Scope} {NX N:List Str} {js:List (Option Nat)} {elt iter tg:Expr} {ifs:List Expr} {pos:Pos} {wi:TI} {g:TG} {tt:TT} {te:TE}
theorem Xc {pins:List (Ac×Obj)} {σ:St} {H2:Hp} {s2:Ae} {fp:List Ac} {cl:List (Str×Ac)} {h1:Heap} {tk:Nat} (hsc:X.env.scope=sc) (hNX:X.N=NX) (ok:CompScope sc scope NX N js) (I2:Inv X pins σ H2 s2)
  (cl1:∀ x c,cl.lookup x=some c→X.env.cells.lookup x=some c) (cl2:∀ y∈scope.names,y.2= .free→∃ c,cl.lookup y.1=some c) (f2:∀ b∈fp,VI X pins H2 b) (hfp:∀ b∈fp,b<s2.heap.objs.size)
  {C:Ac} (hC:s2.heap.objs.size≤C) (old:∀ b o,s2.heap.get? b=some o→h1.get? b=some o) (hns:h1.Ns C fun _=>none):
  Inv (cxC X scope cl C N fp s2 H2) [] (zm js σ) H2 {s2 with heap:=h1,toks:=tk}:=by
 have cOld:∀ x c,X.env.cells.lookup x=some c→c<s2.heap.objs.size:=fun x c e=>by
  obtain ⟨v,z⟩:=I2.cell x c e;exact z.lt
 refine ⟨⟨I2.ok.mod,?_,I2.ok.glob,I2.ok.blt,hC,fun x y c e1 e2=>I2.ok.inj x y c (cl1 x c e1) (cl1 y c e2),fun x hx=>?_,fun x c hf _=>absurd hf Ak,I2.ok.hd,I2.ok.frames,.inl rfl,fun b hb=>⟨B1 (Bk (hfp b hb) hC),fun x c e=>(f2 b hb).2.2.2.2.1 x c (cl1 x c e)⟩,
  I2.bs,As I2.ok.bsz I2.sz,fun b o e hb=>?_,fun b hb z=>?_,I2.stack,I2.stkFree⟩,rfl,I2.bare,Un.kept old,⟨_,hns,fun i x v e1 e2 e3=>?_⟩,fun x c e=>?_,I2.hok.fresh hC,fun x c e=>I2.freeC x c (cl1 x c e),fun p hp=>absurd (show p∈([]:List (Ac×Obj)) from hp) (by simp),I2.hok.kept old,?_⟩
 ·exact ok.kind
 ·have q:scope.names.lookup x=some .free:=yI ok.cell hx;exact cl2 (x,.free) (Cq q) rfl
 ·rcases (f2 b hb).2.2.2.1 with z | z
  ·exact I2.ok.noex b o e z
  ·exact absurd (Bk (A9 (I2.ok.bs b o e).1) z) (Df _)
 ·rcases Av.mp (I2.stkSub b z) with q | q
  ·exact (f2 b hb).2.1 q
  ·exact (f2 b hb).2.2.1 q
 ·have e1':N[i]?=some x:=e1;have e2':(zm js σ)[i]?=some (some v):=e2;unfold zm at e2';rw [Au] at e2';cases hj:js[i]? with
  | none=>rw [hj] at e2';cases e2'
  | some oj=>
   rw [hj] at e2';cases oj with
   | none=>cases e2'
   | some j=>
    have e4:(σ[j]?).join=some v:=Bh e2';have e5:σ[j]?=some (some v):=by
     cases z:σ[j]? with
     | none=>rw [z] at e4;cases e4
     | some ov=>
      rw [z] at e4;have e6:ov=some v:=e4;rw [e6]
    have hz:(some j,x)∈js.zip N:=by
     refine A0 (i:=i) ?_;rw [Bo];exact ⟨hj,e1'⟩
    obtain ⟨q1,q2⟩:=ok.out _ hz j rfl;have q3:=ok.free (x,.free) (Cq q2) rfl;rw [← hsc] at q3;obtain ⟨m,hn,hl⟩:=I2.loc;obtain ⟨u,r,l⟩:=hl j x v (by rw [hNX];exact q1) e5 (.inr q3)
    refine ⟨u,r,.inr ?_⟩;rcases l with ⟨k,_⟩ | ⟨_,c,hc,hcell⟩
    ·have k':X.env.scope.names.lookup x=some .local:=k;rcases q3 with q3 | q3 <;> (rw [k'] at q3;cases q3)
    ·obtain ⟨c',hc'⟩:=cl2 (x,.free) (Cq q2) rfl;have ec:=cl1 x c' hc';rw [hc] at ec;cases ec;refine ⟨?_,c,hc',?_⟩
     ·have e3':Vis (relabel scope X.env) x:=e3;rcases e3' with e3' | e3' | e3'
      ·have:=Vo q2 (env:=X.env);exact absurd e3' this
      ·exact .inl e3'
      ·exact .inr e3'
     ·obtain ⟨o,ho,hd⟩:=hcell;exact ⟨o,old _ _ ho,hd⟩
 ·obtain ⟨v,o,ho,hd⟩:=I2.cell x c (cl1 x c e);exact ⟨v,o,old _ _ ho,hd⟩
 ·show (zm js σ).length=N.length;unfold zm;rw [Aj,ok.len]
theorem yn {pins:List (Ac×Obj)} {σ:St} {H2:Hp} {s2:Ae} {it:Ac} {fp:List Ac} {tn:Nat→Heap→Prop} {J:It} {cl:List (Str×Ac)} {Q:VK} {E:Ab→Ae→Prop} {RR:Ab→Ac→Result→Ae→Prop}
  (hsc:X.env.scope=sc) (hNX:X.N=NX) (ok:CompScope sc scope NX N js) (hc:X.calm=true) (I2:Inv X pins σ H2 s2)
  (cl1:∀ x c,cl.lookup x=some c→X.env.cells.lookup x=some c) (cl2:∀ y∈scope.names,y.2= .free→∃ c,cl.lookup y.1=some c)
  (T:Turn X.prog X.w X.K tg J fp it tn) (st2:tn 0 s2.heap) (f2:∀ b∈fp,VI X pins H2 b)
  (hg:∀ C,PG (cxC X scope cl C N fp s2 H2) tg g) (ht:∀ C,PF (cxC X scope cl C N fp s2 H2) ifs tt) (he:∀ C,PE (cxC X scope cl C N fp s2 H2) elt te)
  (own:qcj js g) {W:Nat→Nat→List V→Hp→Prop} {m0:Nat} (w0:W 0 m0 [] H2)
  (turn:∀ i m ys H',W i m ys H'→ys.length≤Af∧((J.stop i H'∧∀ D,H' D=none→Q (.ref D) (upd H' D (.lst ys)))∨
   (J.go i H'∧∃ N:List V→Hp→Prop,(∀ ys H,N ys H→∃ m',m'<m∧W (i+1) m' ys H)∧
    ∀ x H2,J.yld i H' x H2→g x (zm js σ) H2 fun σ3 H3=>tt σ3 H3 fun ok H4=>if ok=true then te σ3 H4 fun y H5=>N (ys++[y]) H5 else N ys H4)))
  (fin:∀ D C m s' Hf,Inv X pins σ Hf s'→s'.heap.Ns C m→VI X pins Hf C→Q (.ref D) Hf→RR (.ref D) C (.ok .next) s'):
  wpAny (model X.prog X.w) X.A (newList []) (fun acc s₃=>wpAny (model X.prog X.w) X.A (newFunctionEnv scope X.env.globals cl [] X.env.qual none .none (some X.env)) (fun cenv s₄=>
   codeAny (model X.prog X.w) X.A (.compStart (.ListComp elt [⟨tg,iter,ifs,0⟩] scope pos) 0 (.ref it) acc {cenv with scope:=relabel scope X.env}) (RR acc cenv.locals) s₄) E s₃) E s2:=by
 refine Cp (wpAny_newFunctionEnv ok.cell (by intro y hy;simp at hy) (fun h₁ hns₁ hsb₁=>?_) ok.kind)
 dsimp only at hns₁ hsb₁ ⊢;generalize hHH:s2.heap.push {cls:= .type "list",dict:=none,data:= .seq ([]:List Ab).toArray}=HH at hns₁ hsb₁ ⊢;have hCe:HH.objs.size=s2.heap.objs.size+1:=by rw [← hHH,C2]
 obtain ⟨D,hD⟩:∃ D:Nat,D=s2.heap.objs.size:=⟨_,rfl⟩;obtain ⟨C,hC⟩:∃ C:Nat,C=HH.objs.size:=⟨_,rfl⟩;rw [← hC] at hCe hns₁ hsb₁ ⊢;rw [← hD] at hCe ⊢;have hDC:D≠C:=⋯;have hCle:s2.heap.objs.size≤C:=⋯;have hfp:∀ b∈fp,b<s2.heap.objs.size:=fun b hb=>by
  obtain ⟨o,e,_⟩:=T.obj 0 _ st2 b hb;exact A9 e
 have old:∀ b o,s2.heap.get? b=some o→h₁.get? b=some o:=fun b o e=>hsb₁.extBut b o (B1 (Bk (A9 e) hCle)) (Ar _ (hHH▸Ar _ e));have hacc:h₁.PlainList D #[]:=⟨_,hsb₁.extBut _ _ hDC (Ar _ (by rw [← hHH,hD];exact Bc _ rfl))⟩
 have hns:h₁.Ns C fun _=>none:=hns₁;have I4:Inv (cxC X scope cl C N fp s2 H2) [] (zm js σ) H2 {s2 with heap:=h₁,toks:=s2.toks+([]:List (Str×Ab)).length}:=
  Xc hsc hNX ok I2 cl1 cl2 f2 hfp ⋯ old hns
 have st4:tn 0 h₁:=T.keep 0 _ _ st2 fun b _ o e=>old b o e;have cOld:∀ x c,X.env.cells.lookup x=some c→c<s2.heap.objs.size:=fun x c e=>by
  obtain ⟨v,z⟩:=I2.cell x c e;exact z.lt
 have nDfp:D∉fp:=fun z=>absurd (hfp D z) (by rw [hD];exact Df _)
 have stat:∀ {pl:List (Ac×Obj)} {H':Hp},(∀ b∈fp,H' b=none)→(∀ p∈pl,p.1∉fp)→∀ b∈fp,VI (cxC X scope cl C N fp s2 H2) pl H' b:=fun {pl H'} hn hp b hb=>by
  refine ⟨hn b hb,(I4.ok.exf b hb).1,I4.ok.exfs b hb,.inl hb,(I4.ok.exf b hb).2,fun p hpp z=>?_⟩;exact hp p (by simpa [cxC] using hpp) (z▸hb)
 have fpD:∀ {H':Hp},H' D=none→VI (cxC X scope cl C N fp s2 H2) [] H' D:=fun {H'} hn=>by
  refine ⟨hn,hDC,fun z=>?_,.inr (by show s2.heap.objs.size≤D;omega),fun x c e=>?_,fun p hpp=>absurd (show p∈([]:List (Ac×Obj)) from hpp) (by simp)⟩
  ·obtain ⟨_,o,ho,_⟩:=I4.ok.funs.mem z;exact absurd (show D<s2.heap.objs.size from A9 ho) (by rw [hD];exact Df _)
  ·exact B1 (by rw [hD];exact cOld x c (cl1 x c e))
 refine (fun loop=>codeAny_compStart_list (loop _ rfl) (T.self X.A 0 _ _ _ st4 (loop _ rfl))) (fun s₃ (hs₃:s₃={s2 with heap:=h₁,toks:=s2.toks+([]:List (Str×Ab)).length})=>?_)
 subst hs₃;refine Yf (env:=compEnvC scope cl C X.env) (fun n s'=>∃ i ys its H',Inv (cxC X scope cl C N fp s2 H2) [] (zm js σ) H' s'∧tn i s'.heap∧(∀ b∈fp,H' b=none)∧s'.heap.PlainList D its∧qK ys its.toList∧H' D=none∧W i n ys H')
  ?_ m0 ⟨0,[],#[],H2,I4,st4,fun b hb=>(f2 b hb).1,hacc,.nil,I2.hok.fresh ⋯,w0⟩
 rintro n s5 ⟨i,ys,its,H5,I5,st5,fr5,⟨k5,pl5⟩,vl5,hD5,w5⟩;obtain ⟨hz,tr⟩:=turn i n ys H5 w5;have hz':its.size≤Af:=by
  have:=vl5.length;have e4:its.toList.length=its.size:=by simp
  omega
 have I5':Inv (cxC X scope cl C N fp s2 H2) [(D,{cls:= .type "list",data:= .seq its k5})] (zm js σ) H5 s5:=I5.pins_of fun p hp=>by
  have e:p=(D,{cls:= .type "list",data:= .seq its k5}):=by simpa using hp
  subst e;exact ⟨pl5,hD5,hDC,(fpD hD5).2.2.1,fun v z=>by cases z⟩
 have np:∀ p∈[(D,({cls:= .type "list",data:= .seq its k5}:Obj))],p.1∉fp:=fun p hp=>by
  have e:p=(D,{cls:= .type "list",data:= .seq its k5}):=by simpa using hp
  subst e;exact nDfp
 rcases tr with ⟨stop,qn⟩ | ⟨go,N',hN,step⟩
 ·refine thn (T.done (cxC X scope cl C N fp s2 H2) rfl rfl rfl hc i _ s5 (zm js σ) H5 (fun _ _=>False) I5' (stat fr5 np) st5 stop) fun r s6 ⟨hr,I6⟩=>?_;subst hr;have pD:=(I6.pin _ (Bs _ Bi)).1;have I6':Inv (cxC X scope cl C N fp s2 H2) [] (zm js σ) H5 s6:=I6.pins_of fun p hp=>absurd hp (by simp)
  have I7:Inv (cxC X scope cl C N fp s2 H2) [] (zm js σ) (upd H5 D (.lst ys)) s6:=I6'.track (fpD hD5) ⟨hz,its.toList,k5,vl5,by simpa using pD⟩
  obtain ⟨m,hn,_⟩:=I7.loc;have hfC:upd H5 D (.lst ys) C=none:=I7.free;refine fin D C m s6 (upd H5 D (.lst ys)) ?_ hn (I2.fpOk ⋯ hfC) (qn D hD5);exact I2.call' (ch:=fp) I7.os I7.base I7.hok I7.bare fun b hb=>⟨(f2 b hb).2.2.2.1,(f2 b hb).2.1,(f2 b hb).2.2.2.2.1,(f2 b hb).2.2.2.2.2⟩
 ·refine thn (T.item (cxC X scope cl C N fp s2 H2) rfl rfl rfl hc i _ s5 (zm js σ) H5 (fun _ _=>False) I5' (stat fr5 np) st5 go) fun r s6 ⟨u,hr,h6⟩=>?_;subst hr;refine thn h6 fun _ s7 ⟨x,H7,I7,r7,y7,st7,fr7⟩=>?_;have I7':=I7.pinned (stat fr7 np) (T.obj _ _ st7);have q7:=own σ x H7 _ (step x H7 y7);refine thn (hg C _ s7 (zm js σ) H7 x u _ I7' r7 q7) fun _ s8 ⟨σ8,H8,I8,ag8,q8⟩=>?_;have keepD:∀ {σ9:St} {H9:Hp} {s9:Ae},Inv (cxC X scope cl C N fp s2 H2) ([(D,{cls:= .type "list",data:= .seq its k5})]++Vk fp s7.heap) σ9 H9 s9→s9.heap.get? D=some {cls:= .type "list",data:= .seq its k5}∧H9 D=none:=fun I9=>by
   obtain ⟨a,b,_⟩:=I9.pin _ (Bs _ (Ea _ Bi));exact ⟨a,b⟩
  have keepF:∀ {σ9:St} {H9:Hp} {s9:Ae},Inv (cxC X scope cl C N fp s2 H2) ([(D,{cls:= .type "list",data:= .seq its k5})]++Vk fp s7.heap) σ9 H9 s9→tn (i+1) s9.heap∧∀ b∈fp,H9 b=none:=fun I9=>by
   refine ⟨T.keep _ _ _ st7 fun b hb o e=>(I9.pin (b,o) (Bs _ (Bs _ (vg hb e)))).1,fun b hb=>?_⟩;obtain ⟨o,e,d⟩:=T.obj _ _ st7 b hb;exact (I9.pin (b,o) (Bs _ (Bs _ (vg hb e)))).2.1
  refine thn (ht C _ s8 σ8 H8 _ I8 q8) fun okb s9 ⟨H9,I9,q9⟩=>?_;have again:∀ {H10:Hp} {s10:Ae},Inv (cxC X scope cl C N fp s2 H2) ([(D,{cls:= .type "list",data:= .seq its k5})]++Vk fp s7.heap) σ8 H10 s10→Inv (cxC X scope cl C N fp s2 H2) [] (zm js σ) H10 s10:=fun I=>(I.pins_of fun p hp=>absurd hp (by simp)).weak ag8.1.symm ag8.2
  cases okb with
  | false=>
   have q9':N' ys H9:=q9;obtain ⟨m',hm,w9⟩:=hN _ _ q9';show ∃ m,m<n∧_;exact ⟨m',hm,i+1,ys,its,H9,again I9,(keepF I9).1,(keepF I9).2,⟨k5,(keepD I9).1⟩,vl5,(keepD I9).2,w9⟩
  | true=>
   have q9':te σ8 H9 fun y H5=>N' (ys++[y]) H5:=q9;show wpAny _ _ (eval elt (compEnvC scope cl C X.env)) _ _ s9;refine thn (he C _ s9 σ8 H9 _ I9 q9') fun yv s10 ⟨y,H10,I10,r10,q10⟩=>?_;obtain ⟨m',hm,w10⟩:=hN _ _ q10;refine wpAny_list_append_plain (hsz:=hz') ⟨k5,(keepD I10).1⟩ fun h' hl' hs'=>?_;refine ⟨m',hm,i+1,ys++[y],its.push yv,H10,?_,?_,(keepF I10).2,hl',?_,(keepD I10).2,w10⟩
   ·obtain ⟨g0,g1,g2,g3,g4,g5⟩:=fpD (keepD I10).2;exact (again I10).turned (t':=s10.toks) (fun b o hb e=>(hs'.2 b hb).trans e) g0 g1 g3 g4 g5
   ·exact T.keep _ _ _ (keepF I10).1 fun b hb o e=>(hs'.2 b (fun z=>nDfp (z▸hb))).trans e
   ·rw [Array.toList_push];exact vl5.append (.cons r10 .nil)
theorem qX (hi:PI X tg iter wi) (hg:∀ cl C fp s H,PG (cxC X scope cl C N fp s H) tg g) (ht:∀ cl C fp s H,PF (cxC X scope cl C N fp s H) ifs tt) (he:∀ cl C fp s H,PE (cxC X scope cl C N fp s H) elt te)
  (own:qcj js g) (ok:CompScope sc scope NX N js) (hsc:X.env.scope=sc:=by rfl) (hNX:X.N=NX:=by rfl) (hc:X.calm=true:=by rfl) (hs:∀ x,foldedSetIterable iter X.env x=pure x:=by intro _;rfl):
  PE X (.ListComp elt [⟨tg,iter,ifs,0⟩] scope pos) (X4 wi js g tt te):=by
 intro pins s σ H Q I h;rw [eval_ListComp];obtain ⟨cl,hclos,cl1,cl2⟩:=WC (scope:=scope) (env:=X.env) fun y hy hf=>I.ok.has y.1 (by
  have q:=ok.free y hy hf;rw [← hsc] at q;exact q)
 refine wpAny_comprehension_free (use:=none) rfl hs hclos ok.kind ok.names (thn (hi pins s σ H _ I h) fun xv s1 h1=>thn h1 fun itv s2 h2=>?_);obtain ⟨it,fp,tn,J,H2,rfl,I2,T,st2,f2,W,⟨m0,w0⟩,turn⟩:=h2;refine yn (RR:=fun acc C=>compPost (model X.prog X.w) X.A X.xe none (EP X pins σ Q) acc C) hsc hNX ok hc I2 cl1 cl2 T st2 f2 (fun C=>hg cl C fp s2 H2) (fun C=>ht cl C fp s2 H2) (fun C=>he cl C fp s2 H2) own w0 turn fun D C m s' Hf I' hn f q=>?_;obtain ⟨g0,g1,g2,g3,g4,g5⟩:=f;exact ⟨m,hn,fun h' hs'=>⟨.ref D,Hf,I'.turned (t':=s'.toks) (fun b o hb e=>(hs'.2 b hb).trans e) g0 g1 g3 g4 g5,rfl,q⟩⟩
end
mutual
inductive Rep (K:Frag) (H:Hp):V→Aa→Prop
 | non:Rep K H .non .none
 | bl (b:Bool):Rep K H (.bl b) (.bool b)
 | int (i:Int):Rep K H (.int i) (.int i)
 | str (x:Str):Rep K H (.str x) (.str x)
 | lst {a:Ac} {xs:List V} {ds:List Aa}:SqL K H a xs→Reps K H xs ds→Rep K H (.ref a) (.list ds)
 | tup {a:Ac} {xs:List V} {ds:List Aa}:SqT K H a xs→Reps K H xs ds→Rep K H (.ref a) (.tuple ds)
 | dct {a:Ac}:H a=some (.dT [])→Rep K H (.ref a) (.dict [])
inductive Reps (K:Frag) (H:Hp):List V→List Aa→Prop
 | nil:Reps K H [] []
 | cons {x:V} {xs:List V} {d:Aa} {ds:List Aa}:Rep K H x d→Reps K H xs ds→Reps K H (x::xs) (d::ds)
end
section
variable {X:Cx} {pins:List (Ac×Obj)} {σ:St} {H H':Hp} {s:Ae} {K:Frag}
theorem qbu {P:Program} {h:Heap} {w:World} {a:Ac} (ok:HOk P w H h) (e:H a=some (.dT [])):(a==sysModules)=false∧∃ o n,h.get? a=some o∧o.cls= .type "dict"∧o.data= .dict #[] n:=by
 obtain ⟨_,hs,xs,r,o,es,ep,h1,h2,h3,h4,_⟩:=qe7 ok e;cases r;refine ⟨hs,o,ep,h1,h2.1,?_⟩;rw [h3];have:es= #[]:=by
  have:=h4;simpa using this
 rw [this]
mutual
theorem Rep.reads (I:Inv X pins σ H s):∀ {x:V} {d:Aa} {v:Ab},Rep X.K H x d→qz x v→∃ as,Reads s.heap v d as
 | _,_,_,.non,r=>by cases (show _=Value.none from r);exact ⟨_,.none⟩
 | _,_,_,.bl b,r=>by cases (show _=Value.bool b from r);exact ⟨_,.bool b⟩
 | _,_,_,.int i,r=>by
  obtain ⟨t,rfl⟩:=(show ∃ t,_=Value.int i t from r);exact ⟨_,.int i t⟩
 | _,_,_,.str x,r=>by
  obtain ⟨t,rfl⟩:=(show ∃ t,_=Value.str x t from r);exact ⟨_,.str x t⟩
 | _,_,_,.lst (a:=a) h q,r=>by
  cases (show _=Value.ref a from r);obtain ⟨its,rv,⟨o,n,e,c,_,d⟩,_⟩:=I.list h;obtain ⟨as,z⟩:=Reps.reads I q rv;exact ⟨_,.list e c d (by simpa using z)⟩
 | _,_,_,.tup (a:=a) h q,r=>by
  cases (show _=Value.ref a from r);obtain ⟨its,rv,⟨o,e,c,n,d⟩,_⟩:=I.tuple h;obtain ⟨as,z⟩:=Reps.reads I q rv;exact ⟨_,.tuple e c d (by simpa using z)⟩
 | _,_,_,.dct (a:=a) h,r=>by
  cases (show _=Value.ref a from r);obtain ⟨_,o,n,e,c,d⟩:=qbu I.hok h;exact ⟨_,.dict e c d .nil .nil⟩
theorem Reps.reads (I:Inv X pins σ H s):∀ {xs:List V} {ds:List Aa} {vs:List Ab},Reps X.K H xs ds→qK xs vs→∃ as,ReadsAll s.heap vs ds as
 | _,_,_,.nil,.nil=>⟨_,.nil⟩
 | _,_,_,.cons h q,.cons r rr=>by
  obtain ⟨as,z⟩:=Rep.reads I h r;obtain ⟨bs,y⟩:=Reps.reads I q rr;exact ⟨_,.cons z y⟩
end
theorem qk.sqT (g:qk H H') {a:Ac} {xs:List V} (h:SqT K H a xs):SqT K H' a xs:=by
 rcases h with (h | ⟨o,h⟩) | h
 ·exact .inl (.inl (g _ _ h))
 ·exact .inl (.inr ⟨o,g _ _ h⟩)
 ·exact .inr h
mutual
theorem Rep.mono (gL:∀ {a:Ac} {xs:List V},SqL K H a xs→SqL K H' a xs) (gT:∀ {a:Ac} {xs:List V},SqT K H a xs→SqT K H' a xs) (gD:∀ {a:Ac},H a=some (.dT [])→H' a=some (.dT [])):∀ {x:V} {d:Aa},Rep K H x d→Rep K H' x d
 | _,_,.non=> .non
 | _,_,.bl b=> .bl b
 | _,_,.int i=> .int i
 | _,_,.str x=> .str x
 | _,_,.lst h q=> .lst (gL h) (Reps.mono gL gT gD q)
 | _,_,.tup h q=> .tup (gT h) (Reps.mono gL gT gD q)
 | _,_,.dct h=> .dct (gD h)
theorem Reps.mono (gL:∀ {a:Ac} {xs:List V},SqL K H a xs→SqL K H' a xs) (gT:∀ {a:Ac} {xs:List V},SqT K H a xs→SqT K H' a xs) (gD:∀ {a:Ac},H a=some (.dT [])→H' a=some (.dT [])):∀ {xs:List V} {ds:List Aa},Reps K H xs ds→Reps K H' xs ds
 | _,_,.nil=> .nil
 | _,_,.cons h q=> .cons (Rep.mono gL gT gD h) (Reps.mono gL gT gD q)
end
theorem Rep.same (g:qk H H') {x:V} {d:Aa} (h:Rep K H x d):Rep K H' x d:=h.mono g.seq g.sqT fun e=>g _ _ e
theorem Reps.same (g:qk H H') {xs:List V} {ds:List Aa} (h:Reps K H xs ds):Reps K H' xs ds:=h.mono g.seq g.sqT fun e=>g _ _ e
theorem Reps.length:∀ {xs:List V} {ds:List Aa},Reps K H xs ds→xs.length=ds.length
 | _,_,.nil=>rfl
 | _,_,.cons _ q=>by rw [Bj,Bj,Reps.length q]
theorem Reps.append:∀ {xs ys:List V} {ds es:List Aa},Reps K H xs ds→Reps K H ys es→Reps K H (xs++ys) (ds++es)
 | _,_,_,_,.nil,q=>q
 | _,_,_,_,.cons h p,q=> .cons h (Reps.append p q)
theorem Reps.get:∀ {xs:List V} {ds:List Aa} {i:Nat} {x:V},Reps K H xs ds→xs[i]?=some x→∃ d,ds[i]?=some d∧Rep K H x d
 | _,_,_,_,.nil,e=>by simp at e
 | _,_,0,_,.cons r _,e=>by simp at e;subst e;exact ⟨_,rfl,r⟩
 | _,_,i+1,x,.cons _ t,e=>by
  obtain ⟨d,h1,h2⟩:=Reps.get (i:=i) (x:=x) t (by simpa using e)
  exact ⟨d,by simpa using h1,h2⟩
theorem Reps.ints:∀ xs:List Int,Reps K H (xs.map V.int) (xs.map PyData.int)
 | []=> .nil
 | b::r=> .cons (.int b) (Reps.ints r)
def qag (K:Frag):R2:=fun x y H Q=>∃ d e,Rep K H x d∧Rep K H y e∧SeqAt.shaped d=true∧SeqAt.shaped e=true∧Q (.bl (!PyData.eqv d e)) H
theorem qf3 (hu:X.A.units+64<cLine):OpR X (compareOp .NotEq) (qag X.K):=by
 intro pins s σ H x y v u Q I rx ry h;obtain ⟨d,e,h1,h2,z1,z2,q⟩:=h;obtain ⟨as,ra⟩:=h1.reads I rx;obtain ⟨bs,rb⟩:=h2.reads I ry;exact ne_dataH ra rb z1 z2 hu (qV I q rfl)
end
section
variable {X:Cx} {tg:Expr}
theorem W7:OpR X (compareOp .LtE) (fun x y H Q=>∃ i j,x= .str i∧y= .str j∧Q (.bl (!decide (j.cps.toList<i.cps.toList))) H):=by
 intro pins s σ H x y v u Q I rx ry h;obtain ⟨i,j,rfl,rfl,q⟩:=h;obtain ⟨t,rfl⟩:=rx;obtain ⟨t',rfl⟩:=ry;exact PySem.P.le_str (qV I q rfl)
def Its (x:Str):It:=⟨fun i _=>i<x.cps.size,fun i H v H'=>H'=H∧∃ c,x.cps[i]?=some c∧v= .str ⟨#[c]⟩,fun i _=>x.cps.size≤i⟩
theorem QN {P:Program} {w:World} {K:Frag} {tg:Expr} (it:Ac) (x:Str) (t:Tok):Turn P w K tg (Its x) [it] it (fun i h=>h.IsStrIter it (strIterType x) x t i) where
 mem:=by simp
 obj:=fun i h st b hb=>by
  have e:b=it:=by simpa using hb
  subst e;obtain ⟨o,e,c,d⟩:=st;exact ⟨o,e,fun v z=>by rw [d] at z;cases z⟩
 keep:=fun i h h' st k=>by
  obtain ⟨o,e,c⟩:=st;exact ⟨o,k it (by simp) o e,c⟩
 item:=by
  intro X hP hw hK hc i pins s σ H E I hf st hg;subst hP hw hK;obtain ⟨f0,f1,f2,f3,f4,f5⟩:=hf it (by simp)
  have hlt:i<x.cps.size:=hg;have hi:x.cps[i]?=some x.cps[i]:=Array.getElem?_eq_getElem hlt;have fin:∀ h',h'.IsStrIter it (strIterType x) x t (i+1)→Heap.SameBut it s.heap h'→∃ u,some (Value.str ⟨#[x.cps[i]]⟩ s.toks)=some u∧
    wpAny (model X.prog X.w) X.A (letOwnedTupleGo tg (.ref it) u) (fun _ s2=>∃ y H',Inv X pins σ H' s2∧qz y u∧(Its x).yld i H y H'∧s2.heap.IsStrIter it (strIterType x) x t (i+1)∧∀ b∈[it],H' b=none) E {s with heap:=h',toks:=s.toks+1}:=fun h' st' sb=>by
   have I1:Inv X pins σ H {s with heap:=h',toks:=s.toks+1}:=I.turned (fun b o hb e=>(sb.2 b hb).trans e) f0 f1 f3 f4 f5
   obtain ⟨o,e,c,d⟩:=id st';refine ⟨_,rfl,Y2 (s:={s with heap:=h',toks:=s.toks+1}) e c d ?_ ⟨.str ⟨#[x.cps[i]]⟩,H,I1,⟨_,rfl⟩,⟨rfl,_,hi,rfl⟩,st',fun b hb=>(hf b hb).1⟩⟩
   unfold strIterType;split <;> decide
  cases ha:x.cps.all (· <128) with
  | true=>
   have e:strIterType x="str_ascii_iterator":=by unfold strIterType;rw [if_pos ha]
   rw [e] at st;refine wpAny_pyNext_ascii_item st hi fun h' st' sb=>fin h' (by rw [e];exact st') sb
  | false=>
   have e:strIterType x="str_iterator":=by unfold strIterType;rw [if_neg (by rw [ha];decide)]
   rw [e] at st;refine wpAny_pyNext_wide_item st hi fun h' st' sb=>fin h' (by rw [e];exact st') sb
 done:=by
  intro X hP hw hK hc i pins s σ H E I hf st hg;subst hP hw hK;obtain ⟨f0,f1,f2,f3,f4,f5⟩:=hf it (by simp)
  have hi:x.cps[i]?=none:=by
   have:x.cps.size≤i:=hg;simp [this]
  cases ha:x.cps.all (· <128) with
  | true=>
   have e:strIterType x="str_ascii_iterator":=by unfold strIterType;rw [if_pos ha]
   rw [e] at st;exact wpAny_pyNext_ascii_end (I.ok.hd hc) st hi fun h' eb=>⟨rfl,I.turned (t':=s.toks) (fun b o hb e=>eb b o hb e) f0 f1 f3 f4 f5⟩
  | false=>
   have e:strIterType x="str_iterator":=by unfold strIterType;rw [if_neg (by rw [ha];decide)]
   rw [e] at st;exact wpAny_pyNext_wide_end (I.ok.hd hc) st hi fun h' eb=>⟨rfl,I.turned (t':=s.toks) (fun b o hb e=>eb b o hb e) f0 f1 f3 f4 f5⟩
 self:=fun A i s Q E st h=>by
  cases ha:x.cps.all (· <128) with
  | true=>
   have e:strIterType x="str_ascii_iterator":=by unfold strIterType;rw [if_pos ha]
   rw [e] at st;exact wpAny_pyIter_striter_ascii st h
  | false=>
   have e:strIterType x="str_iterator":=by unfold strIterType;rw [if_neg (by rw [ha];decide)]
   rw [e] at st;exact wpAny_pyIter_striter_wide st h
def qh4:V→Option Int→Option Int→Hp→VK→Prop:=fun v lo hi H Q=>∃ x,v= .str x∧x.length≤Af∧Q (.str (Txt.slice x lo hi)) H
theorem qfl:SlR X qh4:=by
 intro pins s σ H x v vl vu lo hi sl Q I rx hs pl pu h;obtain ⟨z,rfl,hz,q⟩:=h;obtain ⟨t,rfl⟩:=rx;refine ⟨"str",_,F.slot_str_getitem.lookup,typeIs_str _ _ _,?_⟩;have fin:∀ t' k,EP X pins σ Q (.str (Txt.slice z lo hi) t') {s with toks:=k}:=fun t' k=>⟨.str _,H,I.tok k,⟨t',rfl⟩,q⟩
 obtain ⟨o,ho,hc,hd⟩:=hs;cases pl with
 | none=>cases pu with
  | none=>exact Dn (l:=none) (u:=none) (st:=none) ⟨o,ho,hc,hd⟩ rfl (post_val_or_str ⟨As (Txt.slice_le z _ _) hz,fin⟩)
  | int j tj=>exact Dn (l:=none) (u:=some (j,tj)) (st:=none) ⟨o,ho,hc,hd⟩ rfl (post_val_or_str ⟨As (Txt.slice_le z _ _) hz,fin⟩)
 | int i ti=>cases pu with
  | none=>exact Dn (l:=some (i,ti)) (u:=none) (st:=none) ⟨o,ho,hc,hd⟩ rfl (post_val_or_str ⟨As (Txt.slice_le z _ _) hz,fin⟩)
  | int j tj=>exact Dn (l:=some (i,ti)) (u:=some (j,tj)) (st:=none) ⟨o,ho,hc,hd⟩ rfl (post_val_or_str ⟨As (Txt.slice_le z _ _) hz,fin⟩)
theorem Z7 {bs:List Bool}:(List.range bs.length).all (fun i=>bs.getD i false)=bs.all id:=by
 rw [Bn,A8,A8];constructor
 ·intro h b hb;obtain ⟨i,hi,e⟩:=List.getElem_of_mem hb;have:=h i (D0.mpr hi);rw [Cz,Ah hi] at this;rw [← e];exact this
 ·intro h i hi;have hi':=D0.mp hi;rw [Cz,Ah hi'];exact h _ (List.getElem_mem hi')
theorem qcf (hc:X.calm=true):JI X (.builtin "all") (fun xs H Q=>∃ (a:Ac) (bs:List Bool),xs=[.ref a]∧SqL X.K H a (bs.map V.bl)∧Q (.bl (bs.all id)) H):=by
 intro pins s σ H xs us Q I r h;obtain ⟨a,bs,rfl,ha,q⟩:=h;obtain ⟨u,rfl,ru⟩:=v5 r;cases ru;obtain ⟨its,rv,p,hz⟩:=I.list ha;have hlt:a<s.heap.objs.size:=by
  obtain ⟨o,n,e,_⟩:=id p;exact A9 e
 have hl:its.length=bs.length:=by rw [← rv.length,Aj]
 refine call_all_walk (wpAny_pyIter_list p.isList ?_);refine ⟨s.heap.objs.size,[s.heap.objs.size,a],[s.heap.objs.size],its.toArray.size,_,_,fun i=>bs.getD i false,rfl,Walks.list (A:=X.A.in1) (I.ok.hd hc) s.heap.objs.size a (B1 hlt) its.toArray,⟨⟨_,Bc _ rfl,rfl,rfl⟩,p.isList.at fun o e=>Ar _ e⟩,?_,fun h' tk hk=>?_⟩
 ·intro i v s' Q' E' hv hq;have hv':its[i]?=some v:=by simpa using hv
  have hi:i<its.length:=(A2.mp hv').1;have hb:(bs.map V.bl)[i]?=some (.bl (bs.getD i false)):=by
   rw [Au,Cz,Ah ⋯];rfl
  obtain ⟨u,hu,ru⟩:=rv.get hb;rw [hv'] at hu;cases hu;cases (show v=Value.bool _ from ru);exact Ce hq
 ·have e:its.toArray.size=bs.length:=by rw [A5];exact hl
  rw [e,Z7];refine ⟨.bl _,H,?_,rfl,q⟩;have I1:Inv X pins σ H {s with heap:=s.heap.push {cls:= .type "list_iterator",data:= .fields #[.ref a,.int 0 0]}}:=I.kept (t':=s.toks) fun b o e=>Ar _ e
  have f:=I.fpOk (An _) (I.hok.fresh (An _));exact I1.turned (fun b o hb e=>hk b o (by simpa using hb) e) f.1 f.2.1 f.2.2.2.1 f.2.2.2.2.1 f.2.2.2.2.2
theorem X8:∀ {ys:List Str} {its:List Ab},qK (ys.map V.str) its→StrsAre its ys
 | [],_,.nil=> .nil
 | y::r,_,.cons h t=>by
  obtain ⟨k,rfl⟩:=h;exact .cons _ k (X8 t)
def qey (K:Frag):V→List V→Hp→VK→Prop:=fun x xs H Q=>∃ (z:Str) (a:Ac) (ys:List Str),x= .str z∧xs=[.ref a]∧SqL K H a (ys.map V.str)∧(ys.map (·.length)).sum+ys.length*z.length≤16777216∧Q (.str (Txt.join z ys)) H
theorem qdk:MtR X "str.join" (qey X.K):=by
 intro pins s σ H x xs v us Q I rx r h;obtain ⟨z,a,ys,rfl,rfl,ha,hk,q⟩:=h;obtain ⟨t,rfl⟩:=rx;obtain ⟨u,rfl,ru⟩:=v5 r;cases ru;obtain ⟨its,rv,p,hz⟩:=I.list ha;exact join_list p.isList (by simpa using X8 rv) hk fun t' k=>⟨.str _,H,I.tok k,⟨t',rfl⟩,q⟩
def isi (t T:String):Bool:=t==T||(t=="bool"&&T=="int")
theorem vh {K:Frag} {t T:String} (h1:t∈["NoneType","bool","int","str","list","tuple","dict"]) (h2:T∈["bool","int","str","list","tuple"]):PySem.W.kitOne K (.type t) (.type T)=some (isi t T):=by
 simp only [Av,A7,or_false] at h1 h2;rcases h1 with rfl | rfl | rfl | rfl | rfl | rfl | rfl <;> rcases h2 with rfl | rfl | rfl | rfl | rfl <;> kernel_rfl
end
theorem jx {c:Bool} {A B:Prop} (e:c=true) (h:A):if c=true then A else B:=by rw [if_pos e];exact h
theorem jo {c:Bool} {A B:Prop} (e:c=false) (h:B):if c=true then A else B:=by rw [if_neg (by rw [e];decide)];exact h
theorem zR:bootBuiltins "len"=some (.builtin "len"):=∅
theorem qg6:bootBuiltins "min"=some (.builtin "min"):=∅
theorem jW:bootBuiltins "all"=some (.builtin "all"):=∅
theorem qA:bootBuiltins "isinstance"=some (.builtin "isinstance"):=∅
theorem WE:bootBuiltins "str"=some (.type "str"):=∅
theorem Yi:bootBuiltins "int"=some (.type "int"):=∅
theorem wL:bootBuiltins "bool"=some (.type "bool"):=∅
theorem wK:bootBuiltins "list"=some (.type "list"):=∅
theorem zO:bootBuiltins "tuple"=some (.type "tuple"):=∅
section
variable {X:Cx} {x:Str} {pos:Pos} {tg:Expr}
theorem Jh {T:String} (hm:X.mg x=none) (hv:bootBuiltins x=some (.type T)) (hg:Gl X x:=by rfl) (hn:x≠"__name__":=by decide) (hd:(x==("__debug__":Str))=false:=by decide):PE X (.Name x pos) (tC (.ty T)):=qc6 hg hm hv rfl hn hd
theorem zA {v:V} (h:∃ u,X.mg x=some u∧qz v u) (hg:Gl X x:=by rfl) (hd:(x==("__debug__":Str))=false:=by decide):PE X (.Name x pos) (tC v):=by
 obtain ⟨u,m,r⟩:=h;exact Zh hg m r hd
def qie:R2:=fun x y H Q=>∃ i j,x= .str i∧y= .str j∧i.length+j.length≤Af∧Q (.str (i++j)) H
def JP:R2:=fun x y H Q=>rI0 (fun i j=> .int (i+j)) x y H Q∨(qie x y H Q∨qid x y H Q)
theorem zk:OpR X (binaryOp .Add) JP:=qf5.or (Xz.or qf4)
def y6 (K:Frag) (tl:TE):TI:=fun σ H R=>tl σ H fun x H1=>(∃ a,x= .ref a∧(∃ xs,SqL K H1 a xs)∧R (Itl K a) H1)∨(∃ a,x= .ref a∧(∃ xs,SqT K H1 a xs)∧R (Itt K a) H1)∨∃ z,x= .str z∧R (Its z) H1
theorem qfu {l:Expr} {tl:TE} (hl:PE X l tl):PI X tg l (y6 X.K tl):=by
 intro pins s σ H R I h;refine thn (hl pins s σ H _ I h) fun v s1 ⟨x,H1,I1,r1,q1⟩=>?_;have fr:∀ b∈[s1.heap.objs.size],VI X pins H1 b:=fun b hb=>by
  have e:b=s1.heap.objs.size:=by simpa using hb
  subst e;exact I1.fpOk (An _) (I1.hok.fresh (An _))
 rcases q1 with ⟨a,e,⟨xs,hq⟩,q⟩ | ⟨a,e,⟨xs,hq⟩,q⟩ | ⟨z,e,q⟩
 ·subst e;cases r1;obtain ⟨its,rv,p,hz⟩:=I1.list hq;refine wpAny_pyIter_list p.isList ?_;exact ⟨s1.heap.objs.size,[s1.heap.objs.size],_,_,H1,rfl,I1.kept (t':=s1.toks) fun b o e=>Ar _ e,ZS a _,⟨_,Bc _ rfl,rfl,rfl⟩,fr,q⟩
 ·subst e;cases r1;obtain ⟨its,rv,p,hz⟩:=I1.tuple hq;refine C8 (show s1.heap.IsTuple a its.toArray from p) ?_;exact ⟨s1.heap.objs.size,[s1.heap.objs.size],_,_,H1,rfl,I1.kept (t':=s1.toks) fun b o e=>Ar _ e,Xh a _,⟨_,Bc _ rfl,rfl,rfl⟩,fr,q⟩
 ·subst e;obtain ⟨t,rfl⟩:=r1;refine wpAny_pyIter_strU ?_;exact ⟨s1.heap.objs.size,[s1.heap.objs.size],_,_,H1,rfl,I1.kept (t':=s1.toks) fun b o e=>Ar _ e,QN _ z t,⟨_,Bc _ rfl,rfl,rfl⟩,fr,q⟩
def qaf (K:Frag):V→Option Int→Option Int→Hp→VK→Prop:=fun x lo hi H Q=>qh5 K x lo hi H Q∨(qh4 x lo hi H Q∨qh3 K x lo hi H Q)
theorem qfm:SlR X (qaf X.K):=qcs.or (qfl.or Q4)
end
section
variable {X:Cx} {K:Frag} {tg:Expr}
theorem ix_k (h:X.K=K):IxR X (rIx K):=h▸qgn
theorem WK (h:X.K=K):SlR X (qaf K):=h▸qfm
theorem jN (h:X.K=K):JI X (.builtin "len") (fun xs H Q=>∃ x n,xs=[x]∧qck K x H n∧Q (.int n) H):=h▸qce
theorem JY (h:X.K=K) (hc:X.calm=true):JI X (.builtin "all") (fun xs H Q=>∃ (a:Ac) (bs:List Bool),xs=[.ref a]∧SqL K H a (bs.map V.bl)∧Q (.bl (bs.all id)) H):=h▸qcf hc
theorem qgj (h:X.K=K):MtR X "str.join" (qey K):=h▸qdk
theorem Wl (h:X.K=K) (hu:X.A.units+64<cLine):OpR X (compareOp .NotEq) (qag K):=h▸qf3 hu
theorem Jx {l:Expr} {tl:TE} (h:X.K=K) (hl:PE X l tl):PI X tg l (y6 K tl):=h▸qfu hl
theorem Jy (h:X.K=K):JI X (.type "tuple") (fun xs H Q=>∃ p ys,xs=[.ref p]∧((SqL K H p ys∧∀ l,H l=none→Q (.ref l) (upd H l (.tup ys)))∨(SqT K H p ys∧Q (.ref p) H))):=h▸WV
theorem vq {es:List Expr} {k:Nat} {t:TGs} {n:Nat} {pos:Pos} (hK:X.K=K) (hc:X.calm=true) (h:PGs X es t) (hn:(assignEach es X.env).length=n:=by rfl) (hst:(assignEach es X.env).findIdx? (·.1)=none:=by rfl):PG X (.Tuple es k pos) (Y3 K n t):=hK▸qfv hc h hn hst
theorem WF {o e:Expr} {es:List Expr} {to:TE} {t:TA} {name:Str} {apos cpos:Pos} {T id:String} {r:V→List V→Hp→VK→Prop} (hK:X.K=K) (pa:PlainAttrs T) (slot:Slot T name id) (hty:typeOf (.builtin id)=pure (.type "method_descriptor")) (hm:MtR X id r) (ho:PE X o to) (ha:PA X (e::es) t)
  (hbase:attributeBase o name X.env (eval o X.env)=eval o X.env:=by rfl)
  (hfew:((backTo cpos (starEach (e::es) X.env)).all (fun x=>!x.1)&&(backToKw cpos (keywordEach [] X.env)).all (fun x=>x.1.isSome)
   &&decide ((e::es).length+([]:List Keyword).length+(if ([]:List Keyword).isEmpty then 0 else 1)<30))=true:=by rfl)
  (hline:(apos.endLine==cpos.line)=true:=by rfl) (hs:starEach (e::es) X.env=(false,eval e X.env)::starEach es X.env:=by rfl) (hplain:(backTo cpos (starEach es X.env)).any (·.1)=false:=by rfl):
  PE X (.Call (.Attribute o name apos) (e::es) [] cpos) (tBM K T r to t):=hK▸qih pa slot hty hm ho ha hbase hfew hline hs hplain
theorem qi9 {o:Expr} {to:TE} {name:Str} {apos cpos:Pos} {T id:String} {r:V→List V→Hp→VK→Prop} (hK:X.K=K) (pa:PlainAttrs T) (slot:Slot T name id) (hty:typeOf (.builtin id)=pure (.type "method_descriptor")) (hm:MtR X id r) (ho:PE X o to)
  (hbase:attributeBase o name X.env (eval o X.env)=eval o X.env:=by rfl) (hline:(apos.endLine==cpos.line)=true:=by rfl):PE X (.Call (.Attribute o name apos) [] [] cpos) (qhk K T r to):=hK▸qfz pa slot hty hm ho hbase hline
end
structure Def (P:Program) (w:World) (K:Frag) (mg:Str→Option Ab) (base:Heap) (k:Nat) (x:Str) (ps:List Str) (sp:Sp):Prop where
 ex:∃ (f:Ac) (fd:FuncData),FnOk P w K mg base CX0 k f fd ps sp∧Jv K fd ps []∧PySem.W.keepIn K (.ref f)=true∧mg x=some (.ref f)
theorem qfy {X:Cx} {k:Nat} {x:Str} {ps:List Str} {sp:Sp} {e:Expr} {es:List Expr} {t:TA} {p pos:Pos} (D:Def X.prog X.w X.K X.mg X.base k x ps sp) (hr:Room k X.A) (ha:PA X (e::es) t) (hg:Gl X x:=by rfl)
  (hdb:(x==("__debug__":Str))=false:=by decide) (he:starEach (e::es) X.env=(false,eval e X.env)::starEach es X.env:=by rfl) (hpl:(backTo pos (starEach es X.env)).any (·.1)=false:=by rfl):
  PE X (.Call (.Name x p) (e::es) [] pos) (jA sp [] E0 t):=by
 obtain ⟨f,fd,F,B,kp,m⟩:=D.ex;exact qc5 F hr hg m kp B .nil qav ha hdb he hpl
theorem vA {A:Around} {k:Nat} (hr:Room k A):A.units+64<cLine:=hr.units
section
variable {P:Program} {w:World} {outer l2:List Env} {H H':Hp} {s s':Ae} {ea:Ac} {C:Ab} {h':Heap}
end
section
variable {P:Program} {w:World} {K:Frag} {mg:Str→Option Ab} {base:Heap} {N:List Str} {qual:Str} {scope:Scope} {f:Ac} {cd:Ab} {A:Around} {outer:List Env} {s₀:Ae} {H₀:Hp} {E:XK}
end
section
open PySem.Builtin PySem.Builtin.ObjectAttr PySem.Builtin.Getset_descriptor
variable {prog:Program} {w:World} {A:Around} {K:Frag} {x D:Ac}
end
section
variable {P:Program} {w:World} {K:Frag} {mg:Str→Option Ab} {base:Heap} {N:List Str} {qual:Str} {scope:Scope} {f:Ac} {cd:Ab} {A:Around} {outer:List Env} {s₀:Ae} {H₀:Hp} {E:XK}
end
section
variable {X:Cx} {pins ps2:List (Ac×Obj)} {σ:St} {H:Hp} {s:Ae}
theorem Inv.trackN {D:Ac} {o:HO} (I:Inv X pins σ H s) (h0:H D=none) (hL:D≠X.env.locals) (hs:X.s₀.heap.get? D=none) (hc:∀ x c,X.env.cells.lookup x=some c→c≠D) (hp:∀ p∈X.pn++pins,p.1≠D)
  (new:zt X.prog X.w (upd H D o) s.heap D o):Inv X pins σ (upd H D o) s:=by
 have nD:∀ b u,H b=some u→b≠D:=fun b u q=>qr q h0;refine ⟨I.ok,I.os,I.bare,⟨I.base.keep,I.base.slot,fun b ob e n hx=>?_,I.base.there,fun b xs e=>?_,fun b ob u e=>?_,fun b ps e=>?_⟩,I.loc,I.cell,by rw [qo (Ne.symm hL)];exact I.free,fun x c e=>by rw [qo (hc x c e)];exact I.freeC x c e,fun p hpp=>?_,fun b u e=>?_,I.len⟩
 ·rw [qo (fun z=>by rw [z,hs] at e;cases e)]
  exact I.base.free b ob e n hx
 ·have q:=I.base.tups b xs e;rw [qo (nD _ _ q)];exact q
 ·have q:=I.base.frzs b ob u e;rw [qo (nD _ _ q)];exact q
 ·obtain ⟨mo,q⟩:=I.base.tbls b ps e;exact ⟨mo,by rw [qo (nD _ _ q)];exact q⟩
 ·obtain ⟨e,n,r⟩:=I.pin p hpp;exact ⟨e,by rw [qo (hp p hpp)];exact n,r⟩
 ·by_cases hb:b=D
  ·subst hb;rw [upd_same] at e;cases e;exact new
  ·rw [qo hb] at e;exact (I.hok b u e).stay (fun c v _ q=>q) (fun c q=>by rw [qo (nD _ _ q)];exact q) fun c xs q=>by rw [qo (nD _ _ q)];exact q
end
section
variable {X:Cx} {K:Frag} {e o:Expr} {es:List Expr} {te to:TE} {st:Stmt} {rest:List Stmt} {t u:TS} {pos apos cpos:Pos}
theorem XQ (hK:X.K=K):OpR X (compareOp .In) (rIn K false):=hK▸Qb
theorem qe2 (hK:X.K=K):OpR X (compareOp .NotIn) (rIn K true):=hK▸yQ
end
inductive EntsAre (p:Params):List DictEntry→List (Str×Ab)→Prop
 | nil:EntsAre p [] []
 | cons {x:Str} {t:Tok} {v:Ab} {es:List DictEntry} {r:List (Str×Ab)}:EntsAre p es r→EntsAre p (⟨PyData.keyHash p x,.str x t,v⟩::es) ((x,v)::r)
def qcl (P:Program) (w:World) (K:Frag) (a:Ac) (kvs:List (Str×Ab)):Prop:=∀ h:Heap,K.In h→h.DictOf (zc P w) a (kvs.map fun e=>((Sum.inr e.1:Key),e.2))
section
variable {P:Program} {w:World} {K:Frag} {a:Ac}
theorem yk {p:Params}:∀ {es:List DictEntry} {kvs:List (Str×Ab)},EntsAre p es kvs→∀ e∈es,∃ x t,e.key= .str x t∧e.hash=PyData.keyHash p x
 | _,_,.nil,e,he=>by cases he
 | _,_,.cons (x:=x) (t:=t) h,e,he=>by
  rcases Av.mp he with rfl | he
  ·exact ⟨x,t,rfl,rfl⟩
  ·exact yk h e he
theorem Wy {p:Params}:∀ {es:List DictEntry} {kvs:List (Str×Ab)},EntsAre p es kvs→Pairs (zc P w) es (kvs.map fun e=>((Sum.inr e.1:Key),e.2))
 | _,_,.nil=> .nil
 | _,_,.cons (x:=x) (t:=t) h=> .cons (vX x t) rfl (Wy h)
theorem qbd {es:List DictEntry} {n:Nat} {kvs:List (Str×Ab)} (l:K.lookup a=some {cls:= .type "dict",data:= .dict es.toArray n}) (e:EntsAre w.params es kvs) (nd:(kvs.map (·.1)).Nodup):qcl P w K a kvs:=by
 intro h X;refine ⟨_,es.toArray,n,X _ _ l,⟨rfl,rfl,rfl⟩,rfl,fun en hen=>?_,by simpa using Wy e,?_⟩
 ·obtain ⟨x,t,e1,e2⟩:=yk e en (by simpa using hen)
  refine ⟨Sum.inr x,?_,?_⟩
  ·rw [e1];exact vX x t
  ·rw [e2];rfl
 ·rw [Bm];have:(((·.1):Key×Ab→Key) ∘ fun e:Str×Ab=>((Sum.inr e.1:Key),e.2))=(Sum.inr:Str→Key) ∘ (·.1):=rfl;rw [this,← Bm];exact (List.pairwise_map.mpr (nd.imp fun hne z=>hne (Ep z)))
theorem Yl:∀ (kvs:List (Str×Ab)) (x:Str),valueAt (kvs.map fun e=>((Sum.inr e.1:Key),e.2)) (Sum.inr x)=(kvs.find? fun e=>decide (e.1=x)).map (·.2)
 | [],_=>rfl
 | (y,v)::r,x=>by
  have ih:=Yl r x;unfold valueAt at ih ⊢;rw [Bb,B2,B2]
  by_cases h:y=x
  ·subst h;simp
  ·have h1:¬ (Sum.inr y:Key)=Sum.inr x:=fun z=>h (Ep z);simp only [Ao h1,Ao h];exact ih
end
inductive TabT (K:Frag):List (Str×List Str)→List (Str×Ab)→Prop
 | nil:TabT K [] []
 | cons {x:Str} {l:List Str} {a:Ac} {T:List (Str×List Str)} {r:List (Str×Ab)}:(∀ H:Hp,SqT K H a (l.map V.str))→TabT K T r→TabT K ((x,l)::T) ((x,.ref a)::r)
theorem TabT.get {K:Frag}:∀ {T:List (Str×List Str)} {r:List (Str×Ab)} {x:Str} {l:List Str},TabT K T r→T.lookup x=some l→∃ a,(r.find? fun e=>decide (e.1=x)).map (·.2)=some (.ref a)∧∀ H:Hp,SqT K H a (l.map V.str)
 | _,_,_,_,.nil,e=>by cases e
 | _,_,x,l,.cons (x:=y) (a:=a) h t,e=>by
  rw [By] at e
  by_cases hx:y=x
  ·subst hx;simp only [Dm] at e;cases e;exact ⟨a,by simp,h⟩
  ·have:(x==y)=false:=by simpa using fun z=>hx z.symm
   rw [this] at e;obtain ⟨b,h1,h2⟩:=TabT.get t e;exact ⟨b,by rw [B2,Ao hx];exact h1,h2⟩
def QT (K:Frag) (T:List (Str×List Str)) (ti:TE):TE:=fun σ H Q=>ti σ H fun y H1=>∃ x l,y= .str x∧T.lookup x=some l∧∀ a,(∀ H:Hp,SqT K H a (l.map V.str))→Q (.ref a) H1
structure KTabT (P:Program) (w:World) (K:Frag) (mg:Str→Option Ab) (nm:Str) (T:List (Str×List Str)):Prop where
 ex:∃ (a:Ac) (kvs:List (Str×Ab)),mg nm=some (.ref a)∧qcl P w K a kvs∧TabT K T kvs
section
variable {X:Cx} {K:Frag} {nm:Str} {np pos:Pos} {i:Expr} {ti:TE}
theorem QS {pins:List (Ac×Obj)} {σ:St} {H:Hp} {s:Ae} {a:Ac} {kvs:List (Str×Ab)} {x:Str} {v u:Ab} {Q:Ab→Ae→Prop} {A:Around} {E:Ab→Ae→Prop} (I:Inv X pins σ H s) (D:qcl X.prog X.w X.K a kvs) (r:qz (.str x) u)
  (hv:(kvs.find? fun e=>decide (e.1=x)).map (·.2)=some v) (h:Q v {s with toks:=s.toks+1}):wpAny (model X.prog X.w) A (getItem (.ref a) u) Q E s:=by
 obtain ⟨t,rfl⟩:=r;exact wpAny_getItem_of (knd:=zc X.prog X.w) (k:=Sum.inr x) (vX x t) (D _ I.kIn).mapOf ((Yl kvs x).trans hv) h
theorem wF {T:List (Str×List Str)} (hK:X.K=K) (D:KTabT X.prog X.w X.K X.mg nm T) (hi:PE X i ti) (hs:qhe i) (hg:Gl X nm:=by rfl) (hd:(nm==("__debug__":Str))=false:=by decide):PE X (.Subscript (.Name nm np) i pos) (QT K T ti):=by
 subst hK;obtain ⟨a,kvs,hm,kd,tb⟩:=D.ex;intro pins s σ H Q I h;refine X7 PySem.F.slot_dict_getitem.lookup hs (wI I hg hm (thn (hi pins s σ H _ I h) fun u s1 ⟨y,H1,I1,r1,x,l,e,hl,q1⟩=>?_) hd);subst e;obtain ⟨b,h1,h2⟩:=tb.get hl;exact ⟨(kd _ I1.kIn).mapOf.typeIs,QS I1 kd r1 h1 ⟨.ref b,H1,I1.tok _,rfl,q1 b h2⟩⟩
end
theorem zX {K:Frag} {a:Ac} {its:List Ab} {n:Nat} {l:List Str} (h:K.lookup a=some {cls:= .type "tuple",data:= .seq its.toArray n}) (v:qK (l.map V.str) its) (hz:its.length≤1000):∀ H:Hp,SqT K H a (l.map V.str):=
 fun _=> .inr ⟨_,its.toArray,n,h,rfl,rfl,by rw [A5];exact As hz O0,by simpa using v⟩
section
variable {prog:Program} {w:World} {A:Around} {E:Ab→Ae→Prop} {s:Ae}
theorem Vn {it t:Ac} {i:Nat} {items:Array Ab} {x:Ab} {Q:Ab→Ae→Prop} (hit:s.heap.IsTupleIter it t i) (ht:s.heap.IsTuple t items) (hx:items[i]?=some x)
  (hQ:∀ h',h'.IsTupleIter it t (i+1)→Heap.SameBut it s.heap h'→Q x {s with heap:=h'}):wpAny (model prog w) A (Builtin.SmallTypes.nextOf (.ref it)) Q E s:=by
 obtain ⟨o,ho,hc,hd⟩:=id hit;obtain ⟨ol,hol,_,nl,hdl⟩:=ht;unfold Builtin.SmallTypes.nextOf;refine Ai (B0 (name:=Str.ofString "__next__") hit.typeIs B9 (Ch B9 hit.typeIs C9 ?_ (C5 _)));show wpAny _ _ (field (.ref it) 0>>=_) _ _ s;refine Ai (Bq ho hd (x:= .ref t) rfl ?_);show wpAny _ _ (if (Value.ref t==Value.none)=true then _ else _) _ _ s;rw [if_neg (show ¬ ((Value.ref t==Value.none)=true) from Ak)]
 show wpAny _ _ (field (.ref it) 1>>=_) _ _ s;refine Ai (Bq ho hd (x:= .int i 0) rfl ?_);show wpAny _ _ (seqItems? (.ref t)>>=_) _ _ s;refine Ai (Cu hol hdl ?_);simp only [Bf,hx];refine Ai (wpAny_setField ho hd (by simp) (A1 ⟨x,rfl,A1 (hQ _ ⟨_,Heap.get?_update_self _ ho (Obj.isFreed_of_fields (Ej hd _)),(Obj.cls_mapFields ..).trans hc,?_⟩ (Ef ..))⟩))
 rw [Ej hd];simp [rawInt]
theorem W9 {it t:Ac} {i:Nat} {items:Array Ab} {Q:Ab→Ae→Prop} (hh:A.handled=none) (hit:s.heap.IsTupleIter it t i) (ht:s.heap.IsTuple t items) (hx:items[i]?=none)
  (hE:∀ h' e,Heap.ExtBut it s.heap h'→(∃ o,h'.get? e=some o∧o.cls= .type "StopIteration")→E (.ref e) {s with heap:=h'}):wpAny (model prog w) A (Builtin.SmallTypes.nextOf (.ref it)) Q E s:=by
 obtain ⟨o,ho,hc,hd⟩:=id hit;obtain ⟨ol,hol,_,nl,hdl⟩:=ht;unfold Builtin.SmallTypes.nextOf;refine Ai (B0 (name:=Str.ofString "__next__") hit.typeIs B9 (Ch B9 hit.typeIs C9 ?_ (C5 _)));show wpAny _ _ (field (.ref it) 0>>=_) _ _ s;refine Ai (Bq ho hd (x:= .ref t) rfl ?_);show wpAny _ _ (if (Value.ref t==Value.none)=true then _ else _) _ _ s;rw [if_neg (show ¬ ((Value.ref t==Value.none)=true) from Ak)]
 show wpAny _ _ (field (.ref it) 1>>=_) _ _ s;refine Ai (Bq ho hd (x:= .int i 0) rfl ?_);show wpAny _ _ (seqItems? (.ref t)>>=_) _ _ s;refine Ai (Cu hol hdl ?_);simp only [Bf,hx];refine Ai (Eu (Ai (wpAny_setField ho hd (by simp) ?_)));show wpAny _ _ (newExc (.type "StopIteration") []>>=_) _ _ _
 refine Ai ?_;simp only [newExc,newTuple];refine Ai (Cp ?_ (by size_fits))
 refine Ai (m:=firstArgMember _ _) (wpAny_of_eq (a:=Value.none) (by first | rfl | (simp only [firstArgMember];rfl)) ?_);refine Cp ?_ (by size_fits)
 simp only [raiseNew];refine Ai (wpAny_handled ?_);first | rw [show A.in1.handled=none from hh] | rw [hh]
 refine Ai (A1 (wpAny_throw (hE _ _ (((Ef ..).extBut.push _).push _) ⟨_,Bc _ rfl,rfl⟩)))
structure ZipAt (z TI TO i1 i2 l1 l2:Ac) (i:Nat) (h:Heap):Prop where
 hz:IsZip h z TI TO .none
 hTI:IsPair h TI (.ref i1) (.ref i2)
 hTO:∃ a b,IsPair h TO a b
 h1:h.IsTupleIter i1 l1 i
 h2:h.IsTupleIter i2 l2 i
theorem ZQ {z TI TO i1 i2 l1 l2:Ac} {i:Nat} {xs ys:Array Ab} {x y:Ab} {Q:Option Ab→Ae→Prop} (D:ZipApart z TI TO i1 i2 l1 l2) (Z:ZipAt z TI TO i1 i2 l1 l2 i s.heap)
  (hl1:s.heap.IsTuple l1 xs) (hl2:s.heap.IsTuple l2 ys) (hx:xs[i]?=some x) (hy:ys[i]?=some y)
  (hQ:∀ h',IsZip h' z TI TO (rawInt s.heap.objs.size)→IsPair h' TO x y→h'.IsTupleIter i1 l1 (i+1)→h'.IsTupleIter i2 l2 (i+1)→IsPair h' s.heap.objs.size x y→h'.objs.size=s.heap.objs.size+1→
   (∀ c o,c≠z→c≠TO→c≠i1→c≠i2→s.heap.get? c=some o→h'.get? c=some o)→Q (some (.ref s.heap.objs.size)) {s with heap:=h'}):
  wpAny (model prog w) A (pyNext (.ref z)) Q E s:=by
 obtain ⟨hz,hTI,⟨a,b,hTO⟩,h1,h2⟩:=Z;have hT:s.TypeIs (.ref z) "zip":=⟨_,hz,rfl⟩;unfold pyNext;refine Ai (wpAny_attempt (B0 (name:=Str.ofString "__next__") hT F.slot_zip_next (Ch F.slot_zip_next hT F.entry_zip_next ?_ (F.args_zip_next_1 _))));show wpAny _ _ (field (.ref z) 2>>=_) _ _ _;refine Ai (Bq hz rfl (x:= .bool false) rfl ?_);show wpAny _ _ (field (.ref z) 3>>=_) _ _ _;refine Ai (Bq hz rfl (x:= .ref TI) rfl ?_);refine Ai (Cu hTI rfl ?_);show wpAny _ _ (Builtin.SmallTypes.ownedTupleIsFree (.ref z)>>=_) _ _ _;refine Ai ?_;unfold Builtin.SmallTypes.ownedTupleIsFree;refine Ai (Bq hz rfl (x:= .none) rfl (A1 ?_));simp only [if_true];refine Ai (Eu ?_);refine Ai (Bq hz rfl (x:= .ref TO) rfl ?_);refine Ai (Ca hz (by simp) fun g1 hz1 s1=>?_)
 replace hz1:IsZip g1 z TI TO .ellipsis:=hz1
 refine Ai ?_;simp only [List.zipIdx_cons,List.zipIdx_nil,Eh,List.forIn_nil];refine Ai (Ai (wpAny_onRaise ?_));show wpAny _ _ (Builtin.SmallTypes.nextOf (.ref i1)>>=_) _ _ _;refine Ai (Vn (h1.extBut s1.extBut D.i1z) (hl1.extBut s1.extBut D.l1z) hx fun g2 k2 s2=>A1 ?_);have hTO2:IsPair g2 TO a b:=s2.extBut _ _ D.TOi1 (s1.extBut _ _ D.TOz hTO);refine Ai (Cu hTO2 rfl ?_);refine Ai (wpAny_updateSeq_pair hTO2 fun g3 hTO3 s3=>?_)
 replace hTO3:IsPair g3 TO x b:=hTO3
 refine Ai (wpAny_letGo (A1 ?_));refine Ai (Ai (wpAny_onRaise ?_));show wpAny _ _ (Builtin.SmallTypes.nextOf (.ref i2)>>=_) _ _ _;refine Ai (Vn (((h2.extBut s1.extBut D.i2z).extBut s2.extBut D.i12.symm).extBut s3.extBut D.TOi2.symm) (((hl2.extBut s1.extBut D.l2z).extBut s2.extBut D.l2i1).extBut s3.extBut D.l2TO) hy fun g4 k4 s4=>A1 ?_);have hTO4:IsPair g4 TO x b:=s4.extBut _ _ D.TOi2 hTO3;refine Ai (Cu hTO4 rfl ?_);refine Ai (wpAny_updateSeq_pair hTO4 fun g5 hTO5 s5=>?_)
 replace hTO5:IsPair g5 TO x y:=hTO5
 refine Ai (wpAny_letGo (A1 (A1 ?_)));refine Ai (Cu hTO5 rfl ?_);refine Ai (wpAny_newTuple ?_);have e5:g5.objs.size=s.heap.objs.size:=by rw [s5.1,s4.1,s3.1,s2.1,s1.1]
 have z5:IsZip g5 z TI TO .ellipsis:=s5.extBut _ _ D.TOz.symm (s4.extBut _ _ D.i2z.symm (s3.extBut _ _ D.TOz.symm (s2.extBut _ _ D.i1z.symm hz1)));have k5:∀ c o,c≠z→c≠TO→c≠i1→c≠i2→s.heap.get? c=some o→g5.get? c=some o:=fun c o c1 c2 c3 c4 e=>s5.extBut _ _ c2 (s4.extBut _ _ c4 (s3.extBut _ _ c2 (s2.extBut _ _ c3 (s1.extBut _ _ c1 e))));have m1:g5.IsTupleIter i1 l1 (i+1):=((k2.extBut s3.extBut D.TOi1.symm).extBut s4.extBut D.i12).extBut s5.extBut D.TOi1.symm;have m2:g5.IsTupleIter i2 l2 (i+1):=k4.extBut s5.extBut D.TOi2.symm;have zlt:z<g5.objs.size:=A9 z5;show wpAny _ _ (Builtin.SmallTypes.ownedTupleHandOut (.ref z) (.ref g5.objs.size)>>=_) _ _ _;refine Ai ?_;unfold Builtin.SmallTypes.ownedTupleHandOut;have z6:IsZip (g5.push {cls:= .type "tuple",data:= .seq #[x,y]}) z TI TO .ellipsis:=Ar _ z5;refine Ai (Ca z6 (by simp) fun g7 z7 s7=>?_)
 replace z7:IsZip g7 z TI TO (rawInt g5.objs.size):=z7
 refine Ca z7 (by simp) fun g8 z8 s8=>?_
 replace z8:IsZip g8 z TI TO (rawInt g5.objs.size):=z8
 have up:∀ c o,c≠z→g5.get? c=some o→g8.get? c=some o:=fun c o c1 e=>s8.extBut _ _ c1 (s7.extBut _ _ c1 (Ar _ e));have t8:IsPair g8 g5.objs.size x y:=s8.extBut _ _ (Cy zlt) (s7.extBut _ _ (Cy zlt) (Bc _ rfl));have n8:g8.objs.size=g5.objs.size+1:=by rw [s8.1,s7.1,C2]
 rw [e5] at z8 t8 n8;refine A1 ⟨_,rfl,?_⟩;refine A1 ?_;show Q (some (.ref g5.objs.size)) _;rw [e5];exact hQ g8 z8 (up _ _ D.TOz hTO5) (m1.at fun o e=>up _ o D.i1z e) (m2.at fun o e=>up _ o D.i2z e) t8 n8 fun c o c1 c2 c3 c4 e=>up c o c1 (k5 c o c1 c2 c3 c4 e)
theorem QH {z TI TO i1 i2 l1 l2:Ac} {i:Nat} {xs ys:Array Ab} {Q:Option Ab→Ae→Prop} (hh:A.handled=none) (D:ZipApart z TI TO i1 i2 l1 l2) (Z:ZipAt z TI TO i1 i2 l1 l2 i s.heap)
  (hl1:s.heap.IsTuple l1 xs) (hl2:s.heap.IsTuple l2 ys) (hend:xs[i]?=none∨ys[i]?=none)
  (hQ:∀ h',(∀ c o,c≠z→c≠TO→c≠i1→c≠i2→s.heap.get? c=some o→h'.get? c=some o)→Q none {s with heap:=h'}):wpAny (model prog w) A (pyNext (.ref z)) Q E s:=by
 obtain ⟨hz,hTI,⟨a,b,hTO⟩,h1,h2⟩:=Z;have hT:s.TypeIs (.ref z) "zip":=⟨_,hz,rfl⟩;unfold pyNext;have fin:∀ h' e,(∀ c o,c≠z→c≠TO→c≠i1→c≠i2→s.heap.get? c=some o→h'.get? c=some o)→(∃ o,h'.get? e=some o∧o.cls= .type "StopIteration")→
   wpAny (model prog w) A (do if ← isInstance (.ref e) (.type "StopIteration") then pure none else throw (.ref e)) Q E {s with heap:=h'}:=fun h' e hk ⟨o,ho,hc⟩=>
  Ai (wpAny_isInstance (T:="StopIteration") (b:=true) ⟨o,ho,hc⟩ isSubtype_stop (A1 (hQ _ hk)))
 refine Ai (wpAny_attempt (B0 (name:=Str.ofString "__next__") hT F.slot_zip_next (Ch F.slot_zip_next hT F.entry_zip_next ?_ (F.args_zip_next_1 _))));show wpAny _ _ (field (.ref z) 2>>=_) _ _ _;refine Ai (Bq hz rfl (x:= .bool false) rfl ?_);show wpAny _ _ (field (.ref z) 3>>=_) _ _ _;refine Ai (Bq hz rfl (x:= .ref TI) rfl ?_);refine Ai (Cu hTI rfl ?_);show wpAny _ _ (Builtin.SmallTypes.ownedTupleIsFree (.ref z)>>=_) _ _ _;refine Ai ?_;unfold Builtin.SmallTypes.ownedTupleIsFree;refine Ai (Bq hz rfl (x:= .none) rfl (A1 ?_));simp only [if_true];refine Ai (Eu ?_);refine Ai (Bq hz rfl (x:= .ref TO) rfl ?_);refine Ai (Ca hz (by simp) fun g1 hz1 s1=>?_)
 replace hz1:IsZip g1 z TI TO .ellipsis:=hz1
 refine Ai ?_;simp only [List.zipIdx_cons,List.zipIdx_nil,Eh,List.forIn_nil];refine Ai (Ai (wpAny_onRaise ?_));show wpAny _ _ (Builtin.SmallTypes.nextOf (.ref i1)>>=_) _ _ _;cases hx:xs[i]? with
 | none=>
  refine Ai (W9 hh (h1.extBut s1.extBut D.i1z) (hl1.extBut s1.extBut D.l1z) hx fun g2 e s2 he=>?_);obtain ⟨oe,hoe,hce⟩:=he;have z2:IsZip g2 z TI TO .ellipsis:=s2 _ _ D.i1z.symm hz1;have ez:e≠z:=fun q=>by subst q;rw [z2] at hoe;cases hoe;simp at hce
  exact Ca z2 (by simp) fun g3 _ s3=>fin g3 e (fun c o c1 _ c3 _ q=>s3.extBut _ _ c1 (s2 _ _ c3 (s1.extBut _ _ c1 q))) ⟨oe,s3.extBut _ _ ez hoe,hce⟩
 | some x=>
  have hy:ys[i]?=none:=by rcases hend with h | h;rw [hx] at h;cases h;exact h
  refine Ai (Vn (h1.extBut s1.extBut D.i1z) (hl1.extBut s1.extBut D.l1z) hx fun g2 k2 s2=>A1 ?_);have hTO2:IsPair g2 TO a b:=s2.extBut _ _ D.TOi1 (s1.extBut _ _ D.TOz hTO);refine Ai (Cu hTO2 rfl ?_);refine Ai (wpAny_updateSeq_pair hTO2 fun g3 hTO3 s3=>?_);refine Ai (wpAny_letGo (A1 ?_));refine Ai (Ai (wpAny_onRaise ?_));show wpAny _ _ (Builtin.SmallTypes.nextOf (.ref i2)>>=_) _ _ _;refine Ai (W9 hh (((h2.extBut s1.extBut D.i2z).extBut s2.extBut D.i12.symm).extBut s3.extBut D.TOi2.symm) (((hl2.extBut s1.extBut D.l2z).extBut s2.extBut D.l2i1).extBut s3.extBut D.l2TO) hy fun g4 e s4 he=>?_);obtain ⟨oe,hoe,hce⟩:=he;have z4:IsZip g4 z TI TO .ellipsis:=s4 _ _ D.i2z.symm (s3.extBut _ _ D.TOz.symm (s2.extBut _ _ D.i1z.symm hz1));have ez:e≠z:=fun q=>by subst q;rw [z4] at hoe;cases hoe;simp at hce
  exact Ca z4 (by simp) fun g5 _ s5=>fin g5 e (fun c o c1 c2 c3 c4 q=>s5.extBut _ _ c1 (s4 _ _ c4 (s3.extBut _ _ c2 (s2.extBut _ _ c3 (s1.extBut _ _ c1 q))))) ⟨oe,s5.extBut _ _ ez hoe,hce⟩
end
section
variable {X:Cx} {pins:List (Ac×Obj)} {σ:St} {H:Hp} {s:Ae} {h':Heap}
theorem Inv.turns {t':Nat} {ch:List Ac} (I:Inv X pins σ H s) (hf:∀ b∈ch,VI X pins H b) (k:∀ b o,b∉ch→s.heap.get? b=some o→h'.get? b=some o):Inv X pins σ H {s with heap:=h',toks:=t'}:=by
 have nit:∀ b u,H b=some u→b∉ch:=fun b u e z=>by rw [(hf b z).1] at e;cases e
 refine I.step (g':=s.gens) (d':=s.drawn) (ch:=ch) (fun b hb=>?_) (fun b o _ _ hc e _=>k b o hc e) (fun b o _ _ hc e _=>⟨o.slots,k b o hc e⟩) (fun _ _ _ _ n=>n)
  (fun b o hc e=>⟨o,k b o hc e⟩) (fun _ _ e=>e) (fun _ _ _ e=>e) (fun b ps e=>⟨#[],by rw [e];simp⟩) (fun m hm=>?_) (fun b u e=>?_) I.bare
 ·obtain ⟨_,f1,_,f3,f4,f5⟩:=hf b hb;exact ⟨f3,f1,f4,f5⟩
 ·obtain ⟨o,es,ep,ho,r⟩:=hm;exact ⟨o,es,ep,k _ o (fun z=>(hf _ z).2.1 rfl) ho,r⟩
 ·refine (I.hok b u e).stay (fun c v hc q=>k c v ?_ q) (fun _ q=>q) fun _ _ q=>q;rcases hc with z | z
  ·rw [z];exact nit b u e
  ·exact nit c _ z
end
def Itz (K:Frag) (a b:Ac):It:=
 ⟨fun i H=>∃ xs ys x y,SqT K H a xs∧SqT K H b ys∧xs[i]?=some x∧ys[i]?=some y,
  fun i H v H'=>∃ p x y,H p=none∧v= .ref p∧(∀ xs,SqT K H a xs→xs[i]?=some x)∧(∀ ys,SqT K H b ys→ys[i]?=some y)∧H'=upd H p (.tup [x,y]),
  fun i H=>∃ xs ys,SqT K H a xs∧SqT K H b ys∧(xs.length≤i∨ys.length≤i)⟩
theorem QM {P:Program} {w:World} {K:Frag} {elts:List Expr} {c:Nat} {pos:Pos} {z TI TO i1 i2 a b:Ac} (D:ZipApart z TI TO i1 i2 a b):
  Turn P w K (.Tuple elts c pos) (Itz K a b) [z,TI,TO,i1,i2] z (fun i h=>ZipAt z TI TO i1 i2 a b i h) where
 mem:=by simp
 obj:=fun i h st x hx=>by
  obtain ⟨hz,hTI,⟨p,q,hTO⟩,⟨o1,e1,c1,d1⟩,⟨o2,e2,c2,d2⟩⟩:=st;simp only [Av,A7,or_false] at hx;rcases hx with rfl | rfl | rfl | rfl | rfl
  ·exact ⟨_,hz,fun v e=>by cases e⟩
  ·exact ⟨_,hTI,fun v e=>by cases e⟩
  ·exact ⟨_,hTO,fun v e=>by cases e⟩
  ·exact ⟨o1,e1,fun v e=>by rw [d1] at e;cases e⟩
  ·exact ⟨o2,e2,fun v e=>by rw [d2] at e;cases e⟩
 keep:=fun i h h' st k=>by
  obtain ⟨hz,hTI,⟨p,q,hTO⟩,h1,h2⟩:=st;exact ⟨k z (by simp) _ hz,k TI (by simp) _ hTI,⟨p,q,k TO (by simp) _ hTO⟩,h1.at fun o e=>k i1 (by simp) o e,h2.at fun o e=>k i2 (by simp) o e⟩
 item:=by
  intro X hP hw hK hc i pins s σ H E I hf st hg;subst hP hw hK;obtain ⟨xs,ys,x,y,hq1,hq2,hx,hy⟩:=hg;obtain ⟨its,rv,p,hz⟩:=I.tuple hq1;obtain ⟨jts,rw',q,hz'⟩:=I.tuple hq2;obtain ⟨u,hu,ru⟩:=rv.get hx;obtain ⟨v,hv,rr⟩:=rw'.get hy;refine ZQ D st (show s.heap.IsTuple a its.toArray from p) (show s.heap.IsTuple b jts.toArray from q) (x:=u) (y:=v) (by simpa using hu) (by simpa using hv) fun h1 z1 t1 k1 k2 pr sz kk=>?_
  refine ⟨_,rfl,wpAny_letOwnedTupleGo_zip z1 fun h2 z2 sb=>?_⟩;have kk2:∀ c o,c∉[z,TO,i1,i2]→s.heap.get? c=some o→h2.get? c=some o:=fun c o hc e=>by
   simp only [Av,A7,or_false,not_or] at hc;exact sb.extBut _ _ hc.1 (kk c o hc.1 hc.2.1 hc.2.2.1 hc.2.2.2 e)
  have I1:Inv X pins σ H {s with heap:=h2}:=I.turns (t':=s.toks) (ch:=[z,TO,i1,i2]) (fun b hb=>hf b (by simp only [Av,A7,or_false] at hb ⊢;rcases hb with rfl | rfl | rfl | rfl <;> simp)) kk2
  have hzlt:z<s.heap.objs.size:=A9 st.hz;have pr2:IsPair h2 s.heap.objs.size u v:=sb.extBut _ _ (Cy hzlt) pr;have f:=I.fpOk (b:=s.heap.objs.size) (H':=H) (An _) (I.hok.fresh (An _));have I2:Inv X pins σ (upd H s.heap.objs.size (.tup [x,y])) {s with heap:=h2}:=I1.trackN f.1 f.2.1 (D6 I.sz) f.2.2.2.2.1 f.2.2.2.2.2 ⟨by simp [Af],[u,v],.cons ru (.cons rr .nil),⟨_,pr2,rfl,_,rfl⟩⟩
  refine ⟨.ref s.heap.objs.size,_,I2,rfl,⟨s.heap.objs.size,x,y,f.1,rfl,fun zs hzs=>by rw [I.tuple_inj hzs hq1];exact hx,fun zs hzs=>by rw [I.tuple_inj hzs hq2];exact hy,rfl⟩,?_,fun b hb=>?_⟩
  ·exact ⟨z2,sb.extBut _ _ D.TIz (kk _ _ D.TIz D.TITO D.TIi1 D.TIi2 st.hTI),⟨u,v,sb.extBut _ _ D.TOz t1⟩,k1.extBut sb.extBut D.i1z,k2.extBut sb.extBut D.i2z⟩
  ·rw [qo (fun e=>?_)]
   ·exact (hf b hb).1
   ·have lt:b<s.heap.objs.size:=by
     obtain ⟨hz,hTI,⟨p,q,hTO⟩,⟨o1,e1,c1,d1⟩,⟨o2,e2,c2,d2⟩⟩:=st;simp only [Av,A7,or_false] at hb;rcases hb with rfl | rfl | rfl | rfl | rfl
     ·exact A9 hz
     ·exact A9 hTI
     ·exact A9 hTO
     ·exact A9 e1
     ·exact A9 e2
    exact B1 lt e
 done:=by
  intro X hP hw hK hc i pins s σ H E I hf st hg;subst hP hw hK;obtain ⟨xs,ys,hq1,hq2,hl⟩:=hg;obtain ⟨its,rv,p,hz⟩:=I.tuple hq1;obtain ⟨jts,rw',q,hz'⟩:=I.tuple hq2;have l1:=rv.length;have l2:=rw'.length;refine QH (I.ok.hd hc) D st (show s.heap.IsTuple a its.toArray from p) (show s.heap.IsTuple b jts.toArray from q) (by simp;omega) fun h1 kk=>⟨rfl,?_⟩
  refine I.turns (t':=s.toks) (ch:=[z,TO,i1,i2]) (fun b hb=>hf b (by simp only [Av,A7,or_false] at hb ⊢;rcases hb with rfl | rfl | rfl | rfl <;> simp)) fun c o hc e=>?_
  simp only [Av,A7,or_false,not_or] at hc;exact kk c o hc.1 hc.2.1 hc.2.2.1 hc.2.2.2 e
 self:=fun _ _ _ _ _ st h=>wpAny_pyIter_zip st.hz h
abbrev tzA (h:Heap) (l:Ac):Heap:=h.push {cls:= .type "tuple_iterator",data:= .fields #[.ref l,.int 0 0]}
abbrev tzP (h:Heap) (u v:Ab):Heap:=h.push {cls:= .type "tuple",data:= .seq #[u,v]}
abbrev tz2 (h:Heap) (l m:Ac):Heap:=tzA (tzA h l) m
abbrev tz4 (h:Heap) (l m:Ac):Heap:=tzP (tzP (tz2 h l m) (.ref h.objs.size) (.ref (tzA h l).objs.size)) .none .none
abbrev tz5 (h:Heap) (l m:Ac):Heap:=(tz4 h l m).push {cls:= .type "zip",data:= .fields #[.none,.bool false,.bool false,.ref (tz2 h l m).objs.size,.ref (tzP (tz2 h l m) (.ref h.objs.size) (.ref (tzA h l).objs.size)).objs.size]}
theorem XG (l m:Ac) (xs ys:Array Ab):
  Meets (Builtin.«zip.__new__» ⟨[.type "zip",.ref l,.ref m],[]⟩) (fun _ R s=>s.heap.IsTuple l xs∧s.heap.IsTuple m ys∧R (.ok (.ret (.ref (tz4 s.heap l m).objs.size))) {s with heap:=tz5 s.heap l m}):=
 .of_wp fun prog w A R s h=>by
  obtain ⟨hp,g,d,tk,os⟩:=s;obtain ⟨hl,hm,h⟩:=h;have hsub:=sub_zip;have h1:Heap.IsTuple (Shared.heap ⟨hp,g,d,tk,os⟩) l xs:=hl;have h2:Heap.IsTuple (Shared.heap ⟨tzA hp l,g,d,tk,os⟩) m ys:=by
   obtain ⟨o,e,c,n,q⟩:=hm;exact ⟨o,Ar _ e,c,n,q⟩
  wp_walk using C8 h1,C8 h2
  exact ⟨_,rfl,h⟩
section
variable {prog:Program} {w:World} {A:Around} {E:Ab→Ae→Prop} {s:Ae}
theorem QE {l m:Ac} {xs ys:Array Ab} {Q:Ab→Ae→Prop} (hl:s.heap.IsTuple l xs) (hm:s.heap.IsTuple m ys)
  (h:∀ h',ZipAt (s.heap.objs.size+4) (s.heap.objs.size+2) (s.heap.objs.size+3) s.heap.objs.size (s.heap.objs.size+1) l m 0 h'→(∀ c o,s.heap.get? c=some o→h'.get? c=some o)→Q (.ref (s.heap.objs.size+4)) {s with heap:=h'}):
  wpAny (model prog w) A (call (.type "zip") [.ref l,.ref m]) Q E s:=by
 refine callType_new F.called_zip O0 (F.typeCall_zip_2 _ _) (F.newCall_zip_2 _ _) (fun obj=>F.args_object_init_3 obj _ _) F.entry_zip_new (XG l m xs ys) ⟨hl,hm,?_⟩;have n1:(tzA s.heap l).objs.size=s.heap.objs.size+1:=C2 ..;have n2:(tz2 s.heap l m).objs.size=s.heap.objs.size+2:=by rw [C2,n1]
 have n3:(tzP (tz2 s.heap l m) (.ref s.heap.objs.size) (.ref (tzA s.heap l).objs.size)).objs.size=s.heap.objs.size+3:=by rw [C2,n2]
 have n4:(tz4 s.heap l m).objs.size=s.heap.objs.size+4:=by rw [C2,n3]
 have g5:(tz5 s.heap l m).get? (tz4 s.heap l m).objs.size=some _:=Bc _ rfl;have up4:∀ c o,(tz4 s.heap l m).get? c=some o→(tz5 s.heap l m).get? c=some o:=fun c o e=>Ar _ e;have up3:∀ c o,(tzP (tz2 s.heap l m) (.ref s.heap.objs.size) (.ref (tzA s.heap l).objs.size)).get? c=some o→(tz5 s.heap l m).get? c=some o:=fun c o e=>up4 c o (Ar _ e);have up2:∀ c o,(tz2 s.heap l m).get? c=some o→(tz5 s.heap l m).get? c=some o:=fun c o e=>up3 c o (Ar _ e);have up1:∀ c o,(tzA s.heap l).get? c=some o→(tz5 s.heap l m).get? c=some o:=fun c o e=>up2 c o (Ar _ e);have g4:=up4 _ _ (Bc _ (o:={cls:= .type "tuple",data:= .seq #[.none,.none]}) rfl);have g3:=up3 _ _ (Bc _ (o:={cls:= .type "tuple",data:= .seq #[.ref s.heap.objs.size,.ref (tzA s.heap l).objs.size]}) rfl);have g2:=up2 _ _ (Bc _ (o:={cls:= .type "tuple_iterator",data:= .fields #[.ref m,.int 0 0]}) rfl);have g1:=up1 _ _ (Bc _ (o:={cls:= .type "tuple_iterator",data:= .fields #[.ref l,.int 0 0]}) rfl);show _∧_;rw [n2,n3,n4] at g5;rw [n1,n2] at g3;rw [n3] at g4;rw [n1] at g2;rw [n4];exact ⟨⟨_,g5,rfl⟩,h _ ⟨g5,g3,⟨_,_,g4⟩,⟨_,g1,rfl,rfl⟩,⟨_,g2,rfl,rfl⟩⟩ fun c o e=>up1 c o (Ar _ e)⟩
end
theorem qg5:bootBuiltins "zip"=some (.type "zip"):=∅
def qbh (K:Frag) (ta:TA):TI:=fun σ H R=>ta σ H fun vs H1=>∃ a b:Ac,vs=[.ref a,.ref b]∧(∃ xs,SqT K H1 a xs)∧(∃ ys,SqT K H1 b ys)∧R (Itz K a b) H1
theorem w8 {X:Cx} {K:Frag} {elts:List Expr} {c:Nat} {tpos:Pos} {a b:Expr} {ta:TA} {p pos:Pos} (hK:X.K=K) (hm:X.mg "zip"=none) (ha:PA X [a,b] ta) (hg:Gl X "zip":=by rfl)
  (hs:starEach [a,b] X.env=[(false,eval a X.env),(false,eval b X.env)]:=by rfl) (hs2:starEach [b] X.env=[(false,eval b X.env)]:=by rfl):PI X (.Tuple elts c tpos) (.Call (.Name "zip" p) [a,b] [] pos) (qbh K ta):=by
 intro pins s σ H R I h;subst hK;refine Call_ (vL I hg hm qg5 (Cm (thn (ha pos pins s σ H _ I h) fun us s1 ⟨vs,H1,I1,r1,q1⟩=>?_) (by rw [hs,hs2]) (by rw [hs2];rfl)))
 obtain ⟨l,m,e,⟨xs,hx⟩,⟨ys,hy⟩,q⟩:=q1;subst e;cases r1 with
 | cons r rr=>
  cases rr with
  | cons r' rr=>
   cases rr;cases r;cases r';obtain ⟨its,rv,pl,hz⟩:=I1.tuple hx;obtain ⟨jts,rw',pm,hz'⟩:=I1.tuple hy;refine QE (show s1.heap.IsTuple l its.toArray from pl) (show s1.heap.IsTuple m jts.toArray from pm) fun h' Z k=>?_;have ll:l<s1.heap.objs.size:=by obtain ⟨o,e,_⟩:=pl;exact A9 e
   have lm:m<s1.heap.objs.size:=by obtain ⟨o,e,_⟩:=pm;exact A9 e
   have D:ZipApart (s1.heap.objs.size+4) (s1.heap.objs.size+2) (s1.heap.objs.size+3) s1.heap.objs.size (s1.heap.objs.size+1) l m:=by
    have na:∀ (n i j:Nat),i≠j→n+i≠n+j:=fun n i j h=>⋯;have nl:∀ (n k i:Nat),k<n→k≠n+i:=fun n k i h=>⋯;exact ⟨na _ 2 4 O0,na _ 3 4 O0,na _ 0 4 O0,na _ 1 4 O0,na _ 2 3 O0,na _ 2 0 O0,na _ 2 1 O0,na _ 3 0 O0,na _ 3 1 O0,na _ 0 1 O0,
     nl _ _ 4 ll,nl _ _ 3 ll,nl _ _ 0 ll,nl _ _ 1 ll,nl _ _ 4 lm,nl _ _ 3 lm,nl _ _ 0 lm,nl _ _ 1 lm⟩
   refine wpAny_pyIter_zip Z.hz ⟨_,_,_,_,H1,rfl,I1.kept (t':=s1.toks) k,QM D,Z,fun b hb=>?_,q⟩;have hb':s1.heap.objs.size≤b:=by
    simp only [Av,A7,or_false] at hb;rcases hb with e | e | e | e | e <;> rw [e] <;> first | exact Nat.le_add_right _ _ | exact An _
   exact I1.fpOk hb' (I1.hok.fresh hb')
section
variable {κ:Type} [DecidableEq κ]
end
section
variable {prog:Program} {w:World} {κ:Type} [DecidableEq κ] {knd:PySem.KeyKind prog w κ} {A:Around}
end
section
variable {prog:Program} {w:World} {κ:Type} [DecidableEq κ] {knd:PySem.KeyKind prog w κ} {A:Around} {E:Ab→Ae→Prop} {s:Ae}
end
section
variable {X:Cx}
end
section
variable {X:Cx} {K:Frag} {x:Str} {pos:Pos}
theorem pt_k {a:Expr} {ta:TE} (hK:X.K=K) (ha:PE X a ta) (he:∀ whole,isTrue a X.env whole=(do let v ← whole;standAt a.pos;holding [v] (truthy v)):=by intro _;rfl):
  PT X a (fun σ H Q=>ta σ H fun x H'=>∃ k,qhb K x H' k∧Q k H'):=hK▸qai ha he
def tGT (K:Frag) (l:List Str):TE:=fun _ H Q=>∀ a,(∀ H:Hp,SqT K H a (l.map V.str))→Q (.ref a) H
theorem Zi {l:List Str} (h:∃ a,X.mg x=some (.ref a)∧∀ H:Hp,SqT K H a (l.map V.str)) (hg:Gl X x:=by rfl) (hd:(x==("__debug__":Str))=false:=by decide):PE X (.Name x pos) (tGT K l):=by
 obtain ⟨a,m,q⟩:=h;intro pins s σ H Q I h;exact Zh (v:= .ref a) hg m rfl hd pins s σ H Q I (h a q)
def tyD:Aa→String
 | .none=>"NoneType"
 | .bool _=>"bool"
 | .int _=>"int"
 | .str _=>"str"
 | .list _=>"list"
 | .tuple _=>"tuple"
 | .dict _=>"dict"
theorem jl (hK:X.K=K):JI X (.builtin "isinstance") (fun xs H Q=>∃ x d T,xs=[x,.ty T]∧Rep K H x d∧T∈["bool","int","str","list","tuple"]∧Q (.bl (isi (tyD d) T)) H):=by
 intro pins s σ H xs us Q I r h;subst hK;obtain ⟨x,d,T,rfl,hr,hT,q⟩:=h;obtain ⟨u,w',rfl,ru,rw'⟩:=qen r;cases (show w'=Value.type T from rw');have fin:∀ tk b,b=isi (tyD d) T→EP X pins σ Q (.bool b) {s with toks:=tk}:=fun tk b e=>⟨.bl _,H,I.tok tk,rfl,e▸q⟩
 cases hr with
 | non=>exact vY I ru .non (vh O0 hT) fun tk=>fin tk _ rfl
 | bl b=>exact vY I ru (.bl b) (vh O0 hT) fun tk=>fin tk _ rfl
 | int i=>exact vY I ru (.int i) (vh O0 hT) fun tk=>fin tk _ rfl
 | str y=>exact vY I ru (.str y) (vh O0 hT) fun tk=>fin tk _ rfl
 | @lst a xs ds hq _=>
  cases (show u=Value.ref a from ru);obtain ⟨its,_,⟨o,n,e,hc,_⟩,_⟩:=I.list hq;exact B8 PySem.W.kitx_list I.kIn ⟨o,e,hc⟩ (vh (t:="list") O0 hT) (fun z=>nomatch z) fun tk=>fin tk _ rfl
 | @tup a xs ds hq _=>
  cases (show u=Value.ref a from ru);obtain ⟨its,_,⟨o,e,hc,_⟩,_⟩:=I.tuple hq;exact B8 PySem.W.kitx_tuple I.kIn ⟨o,e,hc⟩ (vh (t:="tuple") O0 hT) (fun z=>nomatch z) fun tk=>fin tk _ rfl
 | @dct a he=>
  cases (show u=Value.ref a from ru);obtain ⟨_,o,n,e,hc,_⟩:=qbu I.hok he;exact B8 PySem.W.kitx_dict I.kIn ⟨o,e,hc⟩ (vh (t:="dict") O0 hT) (fun z=>nomatch z) fun tk=>fin tk _ rfl
end
structure Stay (st:Ac) (H H':Hp):Prop where
 at0:∃ kvs,H st=some (.dK kvs)
 at1:∃ kvs,H' st=some (.dK kvs)
 rest:∀ b o,b≠st→H b=some o→H' b=some o
section
variable {K:Frag} {st:Ac} {H H' H2:Hp}
theorem Stay.of {kvs:List (Key×V)} (h:H st=some (.dK kvs)) (g:qk H H'):Stay st H H':=⟨⟨kvs,h⟩,⟨kvs,g _ _ h⟩,fun b o _ e=>g b o e⟩
theorem Stay.put {kvs ks:List (Key×V)} (h:H st=some (.dK kvs)):Stay st H (upd H st (.dK ks)):=⟨⟨kvs,h⟩,⟨ks,upd_same⟩,fun b o n e=>by rw [qo n];exact e⟩
theorem Stay.trans (a:Stay st H H') (b:Stay st H' H2):Stay st H H2:=⟨a.at0,b.at1,fun c o n e=>b.rest c o n (a.rest c o n e)⟩
theorem Stay.then (a:Stay st H H') (g:qk H' H2):Stay st H H2:=⟨a.at0,let ⟨k,e⟩:=a.at1;⟨k,g _ _ e⟩,fun c o n e=>g c o (a.rest c o n e)⟩
theorem Stay.after (g:qk H H') {kvs:List (Key×V)} (h:H st=some (.dK kvs)) (b:Stay st H' H2):Stay st H H2:=(Stay.of h g).trans b
theorem Stay.ne (a:Stay st H H') {b:Ac} {o:HO} (e:H b=some o) (hd:∀ kvs,o≠ .dK kvs):b≠st:=fun z=>by
 obtain ⟨k,q⟩:=a.at0;rw [z,q] at e;exact hd k (Bh e).symm
theorem Stay.rd (a:Stay st H H') {b:Ac} {o:HO} (hd:∀ kvs,o≠ .dK kvs) (h:Rd H b o):Rd H' b o:=by
 rcases h with h | ⟨ob,h⟩
 ·exact .inl (a.rest _ _ (a.ne h hd) h)
 ·exact .inr ⟨ob,a.rest _ _ (a.ne h (fun kvs z=>by cases z)) h⟩
theorem Stay.sqL (a:Stay st H H') {b:Ac} {xs:List V} (h:SqL K H b xs):SqL K H' b xs:=by
 rcases h with h | h
 ·exact .inl (a.rd (fun kvs z=>by cases z) h)
 ·exact .inr h
theorem Stay.sqT (a:Stay st H H') {b:Ac} {xs:List V} (h:SqT K H b xs):SqT K H' b xs:=by
 rcases h with h | h
 ·exact .inl (a.rd (fun kvs z=>by cases z) h)
 ·exact .inr h
theorem Stay.free (a:Stay st H H') {b:Ac} (h:H' b=none):H b=none:=by
 cases e:H b with
 | none=>rfl
 | some o=>
  by_cases z:b=st
  ·obtain ⟨k,q⟩:=a.at1;rw [z,q] at h;cases h
  ·rw [a.rest b o z e] at h;cases h
theorem Rep.stay (a:Stay st H H') {x:V} {d:Aa} (h:Rep K H x d):Rep K H' x d:=h.mono a.sqL a.sqT fun e=>a.rest _ _ (a.ne e (fun kvs z=>by cases z)) e
theorem Reps.stay (a:Stay st H H') {xs:List V} {ds:List Aa} (h:Reps K H xs ds):Reps K H' xs ds:=h.mono a.sqL a.sqT fun e=>a.rest _ _ (a.ne e (fun kvs z=>by cases z)) e
end
structure FnOkG (P:Program) (w:World) (K:Frag) (mg:Str→Option Ab) (base:Heap) (CX:CXT) (k:Nat) (f:Ac) (fd:FuncData) (ps:List Str) (sp:Sp):Prop where
 len:∀ vs H Q E,sp vs H Q E→vs.length=ps.length
 run:∀ (A:Around) (outer:List Env) (s:Ae) (H:Hp) (args:Args) (us:List Ab) (vs:List V) (Q:VK) (E:XK),Room k A→A.guards=some []→Env0 P w K mg base A outer s H→BindsTo s fd args (ps.zip us)→qK vs us→sp vs H Q E→
  codeAny (model P w) A (.call (.ref f) args) (CR CX outer P w H s Q E) s
theorem qgr {CX:CXT} {P:Program} {w:World} {K:Frag} {mg:Str→Option Ab} {base:Heap} {k:Nat} {f:Ac} {name qual:Str} {params:Arguments} {body:List Stmt} {scope:Scope} {dV kV doc pm cdv ct oc:Ab} {an od:Option Ac}
  {osl:Array (Option Ab)} {N ps:List Str} {sp:Sp} (lk:K.lookup f=some ⟨oc,od,.func (PySem.W.fnOf name qual params body scope dV kV doc pm an cdv ct),osl⟩) (hcd:PySem.W.codeIn K cdv qual=true) (S:FnScope N ps scope)
  (len:∀ vs H Q E,sp vs H Q E→vs.length=ps.length)
  (hbody:∀ (A:Around) (outer:List Env) (s:Ae) (H:Hp) (vs:List V) (Q:VK) (E:XK),A.guards=some []→Room k (A.deeper (envOfC qual scope s.heap.objs.size f cdv))→sp vs H Q E→
   ∃ t,PSs (WU CX P w K mg base N qual scope f cdv A outer s H E) body t∧t {nx:=fun _ H'=>Q .non H',rt:=Q} (Jz N vs) H):
  FnOkG P w K mg base CX (k+1) f (PySem.W.fnOf name qual params body scope dV kV doc pm an cdv ct) ps sp:=by
 refine ⟨len,fun A outer s H args us vs Q E hr hgd e0 hb r hsp=>?_⟩;have hl:=len _ _ _ _ hsp;have KX:K.In s.heap:=e0.mod.kin.keeps fun b o e=>(e0.bs b o e).1;have lim:s.heap.NoLimit:=e0.mod.nolimit.keeps fun b o e=>(e0.bs b o e).1;have hkind:∀ y∈ps.zip us,scope.names.lookup y.1=some .local∨(scope.names.lookup y.1=some .cell∧((cellsFrom (s.heap.objs.size+1) scope.names []).lookup y.1).isSome=true):=fun ⟨n,v⟩ hy=>by
  rcases S.par n (Eg hy).1 with q | q
  ·exact .inl q
  ·exact .inr ⟨q,PySem.W.cellsFrom_some _ _ _ (.inl q)⟩
 refine codeAny_call_function hr.depth (KX _ _ lk) rfl S.co S.gen rfl (PySem.W.codeRec_of KX hcd) (hb _ _ _ _ ?_);refine wpAny_newFunctionEnv_cells S.kind hkind fun env he s1 x=>?_;subst he;refine ⟨lim.keeps x.toInCall.keep,codeAny_func ?_⟩;obtain ⟨t,ht,hq⟩:=hbody A outer s H vs Q E hgd (hr.deeper _) hsp;have I:Inv (WU CX P w K mg base N qual scope f cdv A outer s H E) [] (Jz N vs) H s1:=yd S hr.hd e0 hl r x;refine Dq (ht [] s1 (Jz N vs) H _ I hq) (fun fl s' hs=>?_) fun e s' hs=>hs;have fin:∀ {σ':St} {H':Hp} {v:V} {u:Ab},Inv (WU CX P w K mg base N qual scope f cdv A outer s H E) [] σ' H' s'→qz v u→Q v H'→CE outer P w H s Q u s':=
  fun {σ' H' v u} J rv q=>⟨v,H',J.os,J.bare,J.base,J.hok,rv,q⟩
 cases fl with
 | ret u=>
  obtain ⟨v,σ',H',J,rv,q⟩:=hs;exact fin J rv q
 | next=>
  obtain ⟨σ',H',J,q⟩:=hs;exact fin (v:=V.non) (u:=Value.none) J rfl q
 | brk=>
  obtain ⟨_,_,_,q⟩:=hs;exact False.elim q
 | cont=>
  obtain ⟨_,_,_,q⟩:=hs;exact False.elim q
theorem Ql {P:Program} {w:World} {K:Frag} {mg mb:Str→Option Ab} {CX:CXT} {k:Nat} {fa a:Ac} {fd:FuncData} {x:Str} {sp:Sp} {s₁:Ae} {vs:List Ab} {ns:List Int}
  (KX:K.In s₁.heap) (hns:s₁.heap.Ns Ap mg) (hb:s₁.heap.Ns builtinsNs mb) (hbb:∀ x:Str,x≠"__name__"→mb x=bootBuiltins x) (hlim:s₁.heap.NoLimit) (hg:s₁.gens= #[])
  (ha:s₁.heap.get? a=some {cls:= .type "list",data:= .seq vs.toArray}) (hi:IntsAre vs ns) (hl:ns.length≤Af) (hr:Room k callerA)
  (F:∀ base:Heap,K.In base→base.Ns Ap mg→FnOkG P w K mg base CX k fa fd [x] sp) (hbind:∀ (s:Ae) (u:Ab),BindsTo s fd ⟨[u],[]⟩ [(x,u)])
  (hsp:∀ H:Hp,qhd H→SqL K H a (ns.map V.int)→sp [.ref a] H (fun v _=>v= .bl true) fun _ _ _=>False)
  (hCX:∀ H e s',CX [] H s₁ (fun _ _ _=>False) e s'→False):
  codeAny (model P w) callerA (.call (.ref fa) ⟨[.ref a],[]⟩) (fun r s'=>r= .ok (.ret (.bool true))∧OldK s₁.heap s'.heap∧s'.os=s₁.os∧AllBare s'.gens) s₁:=by
 have rv:=VJ hi;have lenV:=hi.length;have core:∀ H:Hp,qhd H→SqL K H a (ns.map V.int)→HOk P w H s₁.heap→(∀ b,H b≠none→b=a)→(H a≠none→K.lookup a=none)→
   codeAny (model P w) callerA (.call (.ref fa) ⟨[.ref a],[]⟩) (fun r s'=>r= .ok (.ret (.bool true))∧OldK s₁.heap s'.heap∧s'.os=s₁.os∧AllBare s'.gens) s₁:=by
  intro H hO hS hok hA hK;have base_of:∀ {b:Ac} {o:Obj},s₁.heap.get? b=some o→H b=none→(y8 s₁.heap H).get? b=some o:=fun e n=>qbi e n;have noA:∀ {b:Ac} {o:Obj} {es:Array DictEntry} {ep:Nat},s₁.heap.get? b=some o→o.data= .dict es ep→H b=none:=fun {b o es ep} e d=>by
   cases q:H b with
   | none=>rfl
   | some u=>
    have e':b=a:=hA b (by rw [q];simp)
    subst e';rw [ha] at e;cases e;have d':Data.seq vs.toArray _=Data.dict es ep:=d;cases d'
  have nsK:∀ {b:Ac} {m:Str→Option Ab},s₁.heap.Ns b m→(y8 s₁.heap H).Ns b m:=fun {b m} ⟨o,es,ep,e,d,r⟩=>⟨o,es,ep,base_of e (noA e d),d,r⟩;have hKb:K.In (y8 s₁.heap H):=fun b o e=>base_of (KX b o e) (by
   cases q:H b with
   | none=>rfl
   | some u=>
    have e':b=a:=hA b (by rw [q];simp)
    subst e';rw [hK (by rw [q];simp)] at e;cases e)
  have hM:Mod K mg (y8 s₁.heap H):=⟨hKb,nsK hns,⟨mb,nsK hb,hbb⟩,let ⟨mc,h1,h2⟩:=hlim;⟨mc,nsK h1,h2⟩⟩;have e0:Env0 P w K mg (y8 s₁.heap H) callerA [] s₁ H:=⟨rfl,hM,fun b o e=>qde e,Nat.le_of_eq (Qn _ _),trivial,fun b hb=>absurd (show b∈([]:List Ac) from hb) (by simp),hok,.of_eq hg⟩
  refine codeAny_mono ((F _ hKb (nsK hns)).run callerA [] s₁ H ⟨[.ref a],[]⟩ [.ref a] [.ref a] _ _ hr rfl e0 (hbind s₁ (.ref a)) (.cons rfl .nil) (hsp H hO hS)) fun r s' h=>?_;cases r with
  | error e=>exact (hCX H e s' h).elim
  | ok fl=>
   cases fl with
   | next=>exact False.elim h
   | brk=>exact False.elim h
   | cont=>exact False.elim h
   | ret u=>
    obtain ⟨v,H',os,bare,un,hok',r',q⟩:=h;have q':v= .bl true:=q;subst q';obtain rfl:u=Value.bool true:=r';refine ⟨rfl,OldK.of_keep fun b o e=>?_,os,bare⟩;cases q:H b with
    | none=>exact un.keep b o e q (by intro z;exact absurd (show b∈([]:List Ac) from z) (by simp)) (by simp)
    | some u=>
     rcases hO b with z | ⟨ob,xs,z⟩
     ·rw [q] at z;cases z
     ·have z2:=un.frzs b ob _ z;obtain ⟨e1,_⟩:=hok b _ z;obtain ⟨e2,_⟩:=hok' b _ z2;rw [e] at e1;cases e1;exact e2
 cases hk:K.lookup a with
 | some o=>
  have e:=KX a o hk;rw [ha] at e;cases e;refine core (fun _=>none) (fun _=> .inl rfl) (.inr ⟨_,vs.toArray,_,hk,rfl,rfl,rfl,by rw [A5,lenV];exact hl,by simpa using rv⟩) (fun b u z=>by have z':(none:Option HO)=some u:=z;cases z') (fun b z=>absurd rfl z) fun z=>absurd rfl z
 | none=>
  refine core (fun b=>if b=a then some (.frz {cls:= .type "list",data:= .seq vs.toArray} (.lst (ns.map V.int))) else none) (fun b=>?_) (.inl (.inr ⟨{cls:= .type "list",data:= .seq vs.toArray},if_pos rfl⟩)) (fun b u z=>?_) (fun b z=>?_) fun _=>hk
  ·by_cases hb:b=a
   ·exact .inr ⟨_,_,if_pos hb⟩
   ·exact .inl (if_neg hb)
  ·by_cases hb:b=a
   ·have z':=(if_pos hb).symm.trans z;cases z';subst hb;exact ⟨ha,by rw [Aj];exact hl,vs,_,rv,ha⟩
   ·have z':=(if_neg hb).symm.trans z;cases z'
  ·by_cases hb:b=a
   ·exact hb
   ·exact absurd (if_neg hb) z
theorem QI {l:PySem.W.OpenLaw} {n k:Nat} {q:Program} {loose:List Str} {XP:(Str→Option Ab)→Heap→Prop} {YP:World→Heap→Prop} {d:DefRec} {K:Params→Frag} {CX:World→CXT} {sp:World→Sp} {x:Str}
  (hn:l.most=some n) (hn2:n≤Af) (hdf:d.params.defaults=[]) (hr:Room k callerA)
  (hY:∀ (w:World) (h:Heap),YP w h→(K w.params).In h)
  (F:∀ (w:World) (mg:Str→Option Ab) (fa:Ac) (h:Heap),(K w.params).In h→h.Ns Ap mg→mg d.name=some (.ref fa)→
   ∃ fd:FuncData,(∀ (s:Ae) (u:Ab),BindsTo s fd ⟨[u],[]⟩ [(x,u)])∧
    ∀ base:Heap,(K w.params).In base→base.Ns Ap mg→FnOkG l.prog w (K w.params) mg base (CX w) k fa fd [x] (sp w))
  (hsp:∀ (w:World) (H:Hp) (a:Ac) (ns:List Int),ns.length≤n→qhd H→SqL (K w.params) H a (ns.map V.int)→sp w [.ref a] H (fun v _=>v= .bl true) fun _ _ _=>False)
  (hCX:∀ (w:World) (H:Hp) (s:Ae) (e:Ab) (s':Ae),CX w [] H s (fun _ _ _=>False) e s'→False):
  PySem.W.WalkO q loose XP YP l.row.toRowW d [] (fun f vs=>PySem.call f vs):=by
 refine Att.attach_call hn hdf fun w s₀ s₁ mg mb fa o pm cd doc a vs ns G Y ho hd hcd hmg hobj hints hlen hg=>?_;have KX:=hY w _ Y;obtain ⟨fd,hb,hF⟩:=F w mg fa _ KX G.T.g hmg;exact Ql KX G.T.g G.T.b G.T.builtins G.T.nolimit hg hobj hints (As hlen hn2) hr hF hb (fun H hO hS=>hsp w H a ns hlen hO hS) fun H e s'=>hCX w H s₁ e s'
section
variable {P:Program} {w:World} {K:Frag} {mg:Str→Option Ab} {base:Heap}
theorem Fun.okG {x qual:Str} {st:Stmt} {f:Ac} {fd:FuncData} {N ps:List Str} {k:Nat} {sp:Sp} (F:Fun K x qual st f fd) (S:FnScope N ps (qh st)) (len:∀ vs H Q E,sp vs H Q E→vs.length=ps.length)
  (hbody:∀ (cdv:Ab) (A:Around) (outer:List Env) (s:Ae) (H:Hp) (vs:List V) (Q:VK) (E:XK),(A.deeper (envOfC qual (qh st) s.heap.objs.size f cdv)).guards=some []→Room k (A.deeper (envOfC qual (qh st) s.heap.objs.size f cdv))→sp vs H Q E→
   ∃ t,PSs (WU CX0 P w K mg base N qual (qh st) f cdv A outer s H E).nox (ju st) t∧t {nx:=fun _ H'=>Q .non H',rt:=Q} (Jz N vs) H):FnOkG P w K mg base CX0 (k+1) f fd ps sp:=by
 obtain ⟨oc,od,kV,doc,pm,an,cdv,ct,osl,rfl,lk,hcd⟩:=F.ex;refine qgr lk hcd S len fun A outer s H vs Q E hg hr hsp=>?_;obtain ⟨t,h,q⟩:=hbody cdv A outer s H vs Q E hg hr hsp;exact ⟨t,h.nox,q⟩
end
section
variable {X:Cx} {sc scope:Scope} {NX N:List Str} {js:List (Option Nat)} {tg iter elt:Expr} {ifs:List Expr} {wi:TI} {g:TG} {tt:TT} {te:TE} {pos:Pos}
theorem Jk {i:Nat} {y:Str} {py spos:Pos} (hN:X.N.Nodup) (hy:X.N[i]?=some y) (hL:Loc X.env.scope y) (hi:PI X tg iter wi) (hg:∀ cl C fp s H,PG (cxC X scope cl C N fp s H) tg g) (ht:∀ cl C fp s H,PF (cxC X scope cl C N fp s H) ifs tt)
  (he:∀ cl C fp s H,PE (cxC X scope cl C N fp s H) elt te) (own:qcj js g) (ok:CompScope sc scope NX N js) (hsc:X.env.scope=sc:=by rfl) (hNX:X.N=NX:=by rfl) (hc:X.calm=true:=by rfl) (hs:∀ x,foldedSetIterable iter X.env x=pure x:=by intro _;rfl)
  (hsw:swapsWith (.ListComp elt [⟨tg,iter,ifs,0⟩] scope pos) (some (.Name y py)) spos.line X.env=pure true:=by rfl) (hf:X.fn y=true∨X.env.scope.names.lookup y=some .local:=by first | exact .inl rfl | exact .inr rfl | assumption):
  PS X (.Assign [.Name y py] (.ListComp elt [⟨tg,iter,ifs,0⟩] scope pos) spos) (VM (X4 wi js g tt te) (qC i)):=by
 intro pins s σ H D I h;rw [exec_Assign_Name_used _ _ _ _ hsw];refine Ai (wpAny_standAt (Ai ?_));show wpAny _ X.A (do let _ ← comprehension (.ListComp elt [⟨tg,iter,ifs,0⟩] scope pos) scope X.env _ (newList []) false (eval iter X.env) (some (assign (.Name y py) X.env))) _ _ s
 obtain ⟨cl,hclos,cl1,cl2⟩:=WC (scope:=scope) (env:=X.env) fun z hz hf=>I.ok.has z.1 (by
  have q:=ok.free z hz hf;rw [← hsc] at q;exact q)
 refine Ai (Dq (wpAny_comprehension_free (use:=some (assign (.Name y py) X.env)) (Q:=fun _ s'=>SP X pins D .next s') rfl hs hclos ok.kind ok.names
  (thn (hi pins s σ H _ I h) fun xv s1 h1=>thn h1 fun itv s2 h2=>?_)) (fun _ s' hq=>A1 (A1 hq)) fun _ _ e=>e)
 obtain ⟨it,fp,tn,J,H2,rfl,I2,T,st2,f2,W,⟨m0,w0⟩,turn⟩:=h2;refine yn (Q:=fun x H1=>qC i x σ H1 D.nx) (RR:=fun acc C=>compPost (model X.prog X.w) X.A X.xe (some (assign (.Name y py) X.env)) (fun _ s'=>SP X pins D .next s') acc C) hsc hNX ok hc I2 cl1 cl2 T st2 f2 (fun C=>hg cl C fp s2 H2) (fun C=>ht cl C fp s2 H2) (fun C=>he cl C fp s2 H2) own w0 turn fun L C m s' Hf I' hn f q=>?_
 obtain ⟨g0,g1,g2,g3,g4,g5⟩:=f;show wpAny _ X.A (assign (.Name y py) X.env (.ref L)) _ _ _;refine wpAny_assign_Name (WY I' hN hy hL (show qz (.ref L) (.ref L) from rfl) (fun s3 I3 hb=>?_) hf);obtain ⟨a,sb,ha⟩:=hb;have hCa:C≠a:=by
  rcases ha with rfl | ha
  ·exact g1
  ·exact fun z=>g4 _ _ ha z.symm
 exact ⟨m,hn.sameBut sb hCa,fun h' hs'=>⟨_,Hf,I3.turned (t':=s3.toks) (fun b o hb e=>(hs'.2 b hb).trans e) g0 g1 g3 g4 g5,q⟩⟩
end
section
variable {X:Cx} {K:Frag}
theorem qdt {us:List Ab} {ks:List Int} (hl:us.length=ks.length) (h:∀ (i:Nat) (u:Ab) (k:Int),us[i]?=some u→ks[i]?=some k→∃ t,u=Value.int k t):IntsAre us ks:=by
 induction us generalizing ks with
 | nil=>
  cases ks with
  | nil=>exact .nil
  | cons a b=>simp at hl
 | cons u us ih=>
  cases ks with
  | nil=>simp at hl
  | cons k ks=>
   obtain ⟨t,rfl⟩:=h 0 u k rfl rfl;exact .cons k t (ih (by simpa using hl) fun i y v h1 h2=>h (i+1) y v (by simpa using h1) (by simpa using h2))
end
structure MethN (P:Program) (w:World) (K:Frag) (mg:Str→Option Ab) (base:Heap) (C:Ac) (k:Nat) (m:Str) (ps:List Str) (sp:Sp):Prop where
 ex:∃ (f:Ac) (fd:FuncData),FnOk P w K mg base CX0 k f fd ps sp∧Jv K fd ps []∧Meth K C m f
 cl:Cls K C
section
variable {X:Cx} {C:Ac} {k:Nat} {m x:Str} {ps:List Str} {sp:Sp} {E:XK} {o e:Expr} {es:List Expr} {ta:TE} {t:TA} {p pos apos:Pos} {pl:Sem Bool}
theorem qat (he:PE X o ta) (D:MethN X.prog X.w X.K X.mg X.base C k m ps sp) (hr:Room k X.A) (ha:PA X (e::es) t)
  (hst:starEach (e::es) X.env=(false,eval e X.env)::starEach es X.env:=by rfl) (hpl:(backTo pos (starEach es X.env)).any (·.1)=false:=by rfl)
  (ht:eval (.Call (.Attribute o m apos) (e::es) [] pos) X.env=(do let ov ← eval o X.env;standAt apos.atName;let (f,first) ← holding [ov] (getMethod ov m pl);callWith pos f first (backTo pos (starEach (e::es) X.env)) (backToKw pos (keywordEach [] X.env))):=by rfl):
  PE X (.Call (.Attribute o m apos) (e::es) [] pos) (qer C m sp [] E0 ta t):=by
 obtain ⟨f,fd,F,B,M⟩:=D.ex;exact qc2 he D.cl M F hr B .nil qav ha hst hpl ht
end
section
variable {P:Program} {w:World} {K:Frag} {mg:Str→Option Ab} {base:Heap}
end
section
variable {prog:Program} {w:World} {A:Around} {E:Ab→Ae→Prop} {s:Ae} {a₀:Array Keyed} {st:SortSt}
end
section
variable {prog:Program} {w:World} {A:Around} {E:Ab→Ae→Prop} {s:Ae}
end
section
variable {X:Cx}
theorem XY (hc:X.calm=true):JI X (.type "list") (fun xs H Q=>∃ (d:Ac) (kvs:List (Key×V)) (ks:List Int),xs=[.ref d]∧H d=some (.dK kvs)∧kvs.map (·.1)=ks.map Sum.inl∧ks.length≤100000∧∀ l,H l=none→Q (.ref l) (upd H l (.lst (ks.map V.int)))):=by
 intro pins s σ H xs us Q I r h;obtain ⟨d,kvs,ks,rfl,hd,hk,hle,q⟩:=h;obtain ⟨u,rfl,rx⟩:=v5 r;cases rx;obtain ⟨hz,lo,vs,rel,dd⟩:=(show zt X.prog X.w H s.heap d (.dK kvs) from I.hok d _ hd);obtain ⟨ep,hat⟩:=dd.dictAt;have hkeys:vs.map (·.1)=ks.map Sum.inl:=by rw [← rel.keys];exact hk
 have hlen:vs.length=ks.length:=by have:=congrArg List.length hkeys;simpa using this
 have big:(100000:Nat)≤Af:=O0;refine PySem.W.kdl_call (PySem.W.kdl_dict (knd:=zc X.prog X.w) (kvs:=vs) (ep:=ep) lo) (I.ok.hd hc) hat ⋯ fun h' tk acc c' hkp hS hacc=>?_;have hl:acc.toList.length=vs.length:=by rw [Ee];exact hacc.1
 have hI:IntsAre acc.toList ks:=qdt ⋯ fun i u k h1 h2=>by
  obtain ⟨k',x,e1,e2⟩:=hacc.2 i u (by simpa using h1)
  have e3:(vs.map (·.1))[i]?=some k':=by rw [Au,e1];rfl
  rw [hkeys,Au,h2] at e3;cases e3;rcases zq (show wn (Sum.inl k) u=true from e2) with ⟨j,t,e,rfl⟩ | ⟨y,t,e,_⟩
  ·cases e;exact ⟨t,rfl⟩
  ·cases e
 refine ⟨.ref s.heap.objs.size,_,I.laid (t':=tk) (o:= .lst (ks.map V.int)) hkp (An _) ?_,rfl,q _ (I.hok.fresh (An _))⟩;exact ⟨by rw [Aj];omega,acc.toList,c',VJ hI,by simpa using hS⟩
end
end L2
namespace L2
open PySem
section
variable {M:Model} {A:Around} {E:Ab→Ae→Prop} {s:Ae} {e:Ac} {d:Option Ac}
end
section
variable {prog:Program} {w:World} {A:Around} {E:Ab→Ae→Prop} {h:Heap} {g:Array GenState} {d:Drawn} {t:Nat} {os:OsState}
variable {nm q:Str} {C N:Ac} {bs bm bmB:List Ab} {hdct:Bool} {sn:List Str} {sub:List Ab} {ab:Bool} {col:Option Bool} {dd:Option Ac} {k0 k1 k2 k3 k5:Option Ab} {B newId initId:String}
end
section
variable {prog:Program} {w:World} {A:Around} {E:Ab→Ae→Prop} {s:Ae} {env:Env}
variable {nm q:Str} {C N:Ac} {bs bm bmB:List Ab} {hdct:Bool} {sn:List Str} {sub:List Ab} {ab:Bool} {col:Option Bool} {dd:Option Ac} {k0 k1 k2 k3 k5:Option Ab} {B newId initId:String}
end
end L2
namespace L2
open PySem PySem.Spec PyProof.Rows
section
variable {P:Program} {w:World} {K:Frag} {mg:Str→Option Ab} {base:Heap} {N:List Str} {qual:Str} {scope:Scope} {f:Ac} {cd:Ab} {A:Around} {outer:List Env} {s₀:Ae} {H₀:Hp} {E:XK}
end
section
variable {X:Cx} {pins:List (Ac×Obj)}
end
section
variable {prog:Program} {w:World} {A:Around} {E:Ab→Ae→Prop} {h:Heap} {g:Array GenState} {d:Drawn} {t:Nat} {os:OsState}
variable {nm q:Str} {C N:Ac} {bs bm bmB:List Ab} {hdct:Bool} {sn:List Str} {sub:List Ab} {ab:Bool} {col:Option Bool} {dd:Option Ac} {k0 k1 k2 k3 k5:Option Ab} {B newId initId:String}
end
section
variable {prog:Program} {w:World} {A:Around} {E:Ab→Ae→Prop} {s:Ae} {K:Frag} {C L x:Ac} {name:Str}
end
section
variable {prog:Program} {w:World} {A:Around} {E:Ab→Ae→Prop} {s:Ae} {K:Frag} {C x dx:Ac} {name:Str} {mA:Str→Option Ab}
end
section
variable {X:Cx} {CL C fI:Ac} {o e value:Expr} {es:List Expr} {f:Str} {t:TA} {ta tv te:TE} {apos pos pos' p1 p2 p3:Pos} {pl:Sem Bool}
end
section
variable {P:Program} {w:World} {K:Frag} {mg:Str→Option Ab} {base:Heap} {N:List Str} {qual:Str} {scope:Scope} {f:Ac} {cd:Ab} {A:Around} {outer:List Env} {s₀:Ae} {H₀:Hp} {E:XK}
end
section
variable {prog:Program} {w:World} {A:Around} {E:Ab→Ae→Prop} {s:Ae}
variable {T:String} {r d:Ac} {n:Nat} {P:Nat→Ab→Prop} {St:Nat→Heap→Prop}
end
section
variable {X:Cx} {K:Frag} {a:Expr} {ta:TA} {p1 p2 pos1 pos2:Pos}
end
def Ite (K:Frag) (l:Ac):It:=
 ⟨fun i H=>∃ xs x,SqL K H l xs∧xs[i]?=some x,
  fun i H v H'=>∃ p x,H p=none∧v= .ref p∧(∀ xs,SqL K H l xs→xs[i]?=some x)∧H'=upd H p (.tup [.int (i:Nat),x]),
  fun i H=>∃ xs,SqL K H l xs∧xs.length≤i⟩
theorem ZT {P:Program} {w:World} {K:Frag} {elts:List Expr} {c:Nat} {pos:Pos} {e it l:Ac} (hei:e≠it):
  Turn P w K (.Tuple elts c pos) (Ite K l) [e,it] e (fun i h=>(∃ old,IsEnum h e it (i:Int) old)∧h.IsListIter it l i) where
 mem:=by simp
 obj:=fun i h st x hx=>by
  obtain ⟨⟨old,he⟩,⟨o1,e1,c1,d1⟩⟩:=st;simp only [Av,A7,or_false] at hx;rcases hx with rfl | rfl
  ·exact ⟨_,he,fun v e=>by cases e⟩
  ·exact ⟨o1,e1,fun v e=>by rw [d1] at e;cases e⟩
 keep:=fun i h h' st k=>by
  obtain ⟨⟨old,he⟩,h1⟩:=st;exact ⟨⟨old,k e (by simp) _ he⟩,h1.at fun o z=>k it (by simp) o z⟩
 item:=by
  intro X hP hw hK hc i pins s σ H E I hf st hg;subst hP hw hK;obtain ⟨xs,x,hq,hx⟩:=hg;obtain ⟨its,rv,p,hz⟩:=I.list hq;obtain ⟨u,hu,ru⟩:=rv.get hx;obtain ⟨⟨old,he⟩,hit⟩:=st;refine wpAny_pyNext_enum_item he hit p.isList (x:=u) (by simpa using hu) hei fun h1 z1 k1 pr sz kk=>?_
  refine ⟨_,rfl,wpAny_letOwnedTupleGo_enum (s:={s with heap:=h1,toks:=s.toks+1}) z1 fun h2 z2 sb=>?_⟩
  have kk2:∀ c o,c∉[e,it]→s.heap.get? c=some o→h2.get? c=some o:=fun c o hc z=>by
   simp only [Av,A7,or_false,not_or] at hc;exact sb.extBut _ _ hc.1 (kk c o hc.1 hc.2 z)
  have I1:Inv X pins σ H {s with heap:=h2,toks:=s.toks+1}:=I.turns (t':=s.toks+1) (ch:=[e,it]) (fun b hb=>hf b hb) kk2
  have helt:e<s.heap.objs.size:=A9 he;have pr2:h2.get? s.heap.objs.size=some {cls:= .type "tuple",data:= .seq #[.int (i:Nat) s.toks,u]}:=sb.extBut _ _ (Cy helt) pr;have f:=I.fpOk (b:=s.heap.objs.size) (H':=H) (An _) (I.hok.fresh (An _));have I2:Inv X pins σ (upd H s.heap.objs.size (.tup [.int (i:Nat),x])) {s with heap:=h2,toks:=s.toks+1}:=I1.trackN f.1 f.2.1 (D6 I.sz) f.2.2.2.2.1 f.2.2.2.2.2 ⟨by simp [Af],[.int (i:Nat) s.toks,u],.cons ⟨_,rfl⟩ (.cons ru .nil),⟨_,pr2,rfl,_,rfl⟩⟩
  refine ⟨.ref s.heap.objs.size,_,I2,rfl,⟨s.heap.objs.size,x,f.1,rfl,fun zs hzs=>by rw [I.list_inj hzs hq];exact hx,rfl⟩,?_,fun b hb=>?_⟩
  ·exact ⟨⟨_,z2⟩,k1.extBut sb.extBut hei.symm⟩
  ·rw [qo (fun z=>?_)]
   ·exact (hf b hb).1
   ·have lt:b<s.heap.objs.size:=by
     obtain ⟨o1,e1,c1,d1⟩:=hit;simp only [Av,A7,or_false] at hb;rcases hb with rfl | rfl
     ·exact helt
     ·exact A9 e1
    exact B1 lt z
 done:=by
  intro X hP hw hK hc i pins s σ H E I hf st hg;subst hP hw hK;obtain ⟨xs,hq,hl⟩:=hg;obtain ⟨its,rv,p,hz⟩:=I.list hq;have l1:=rv.length;obtain ⟨⟨old,he⟩,hit⟩:=st;refine wpAny_pyNext_enum_end (I.ok.hd hc) he hit p.isList (by simp;omega) fun h1 kk=>⟨rfl,?_⟩
  exact I.turns (t':=s.toks) (ch:=[e,it]) (fun b hb=>hf b hb) fun c o hc z=>kk c o (fun y=>hc (by simp [y])) z
 self:=fun _ _ _ _ _ st h=>Em st.1.choose_spec h
def qiz (K:Frag) (ta:TA):TI:=fun σ H R=>ta σ H fun vs H1=>∃ a:Ac,vs=[.ref a]∧(∃ xs,SqL K H1 a xs)∧R (Ite K a) H1
theorem VG:bootBuiltins "enumerate"=some (.type "enumerate"):=∅
theorem Ze {X:Cx} {K:Frag} {elts:List Expr} {c:Nat} {tpos:Pos} {a:Expr} {ta:TA} {p pos:Pos} (hK:X.K=K) (hm:X.mg "enumerate"=none) (ha:PA X [a] ta) (hg:Gl X "enumerate":=by rfl)
  (hs:starEach [a] X.env=[(false,eval a X.env)]:=by rfl):PI X (.Tuple elts c tpos) (.Call (.Name "enumerate" p) [a] [] pos) (qiz K ta):=by
 intro pins s σ H R I h;subst hK;refine Call_ (vL I hg hm VG (Cm (thn (ha pos pins s σ H _ I h) fun us s1 ⟨vs,H1,I1,r1,l,e,⟨xs,hx⟩,q⟩=>?_) hs rfl));subst e;obtain ⟨u1,rfl,r⟩:=v5 r1;cases r;obtain ⟨its,rv,pl,hz⟩:=I1.list hx;refine call_enumerate_list pl.isList fun h' Z1 Z2 _ k=>?_;refine Em Z1 ⟨_,[s1.heap.objs.size+1,s1.heap.objs.size],_,_,H1,rfl,I1.kept (t':=s1.toks) k,ZT (Cy (D8 _)),⟨⟨_,Z1⟩,Z2⟩,fun b hb=>?_,q⟩;have hb':s1.heap.objs.size≤b:=by
  simp only [Av,A7,or_false] at hb;rcases hb with e | e <;> rw [e] <;> first | exact Nat.le_succ _ | exact An _
 exact I1.fpOk hb' (I1.hok.fresh hb')
structure MakeA (P:Program) (w:World) (K:Frag) (mg:Str→Option Ab) (base:Heap) (x:Str) (C:Ac) (k:Nat) (ps:List Str) (sp:Sp):Prop where
 ex:∃ (f:Ac) (fd:FuncData),FnOk P w K mg base CX0 k f fd ps sp∧Jv K fd ps []∧Mk K C f
 mC:mg x=some (.ref C)
theorem qfx {X:Cx} {x:Str} {C:Ac} {k:Nat} {ps:List Str} {sp:Sp} {e:Expr} {es:List Expr} {t:TA} {p pos:Pos} (D:MakeA X.prog X.w X.K X.mg X.base x C k ps sp) (hr:Room (k+1) X.A) (ha:PA X (e::es) t) (hg:Gl X x:=by rfl) (hdb:(x==("__debug__":Str))=false:=by decide)
  (he:starEach (e::es) X.env=(false,eval e X.env)::starEach es X.env:=by rfl) (hpl:(backTo pos (starEach es X.env)).any (·.1)=false:=by rfl):PE X (.Call (.Name x p) (e::es) [] pos) (QU C sp [] E0 t):=by
 obtain ⟨f,fd,F,B,M⟩:=D.ex;exact qc3 M F hr hg D.mC B .nil qav ha hdb he hpl
section
variable {X:Cx} {K:Frag}
end
section
variable {K:Frag} {H:Hp} {a b:Ac} {xs zs:List V} {i:Int} {v:V} {Q:VK}
theorem XX (h:H a=some (.lst xs)) (h':H b=some (.lst zs)) (z:xs.length+zs.length≤Af) (q:∀ p,H p=none→Q (.ref p) (upd H p (.lst (xs++zs)))):JP (.ref a) (.ref b) H Q:= .inr (.inr ⟨a,b,xs,zs,rfl,rfl,h,h',z,q⟩)
end
section
variable {X:Cx} {x:Str} {e a b o:Expr} {es:List Expr} {te ta tb to:TE} {t:TA} {p pos pos' apos cpos:Pos}
theorem pst (i:Nat) (hN:X.N.Nodup) (he:PE X e te) (hi:X.N[i]?=some x:=by rfl) (hx:Loc X.env.scope x:=by first | exact Or.inl rfl | exact Or.inr rfl) (hs:swapsWith e (some (.Name x pos')) pos.line X.env=pure false:=by rfl)
  (hf:X.fn x=true∨X.env.scope.names.lookup x=some .local:=by first | exact .inl rfl | exact .inr rfl | assumption):PS X (.Assign [.Name x pos'] e pos) (VM te (qC i)):=qft hN hi hx he hs hf
theorem pgn (i:Nat) (hN:X.N.Nodup) (hi:X.N[i]?=some x:=by rfl) (hx:Loc X.env.scope x:=by first | exact Or.inl rfl | exact Or.inr rfl) (hf:X.fn x=true∨X.env.scope.names.lookup x=some .local:=by first | exact .inl rfl | exact .inr rfl | assumption):PG X (.Name x pos) (qC i):=qx hN hi hx hf
theorem pix (K:Frag) (ha:PE X a ta) (hb:PE X b tb) (hK:X.K=K:=by rfl) (hs:ZO b:=by intro _ _;rfl):PE X (.Subscript a b pos) (tOp (rIx K) ta tb):=qig (ix_k hK) ha hb hs
theorem pdf {k:Nat} {ps:List Str} {sp:Sp} (D:Def X.prog X.w X.K X.mg X.base k x ps sp) (ha:PA X (e::es) t) (hr:Room k X.A:=by first | assumption | exact Room.mono (by assumption) (by first | decide | omega)) (hg:Gl X x:=by rfl)
  (hdb:(x==("__debug__":Str))=false:=by decide) (he:starEach (e::es) X.env=(false,eval e X.env)::starEach es X.env:=by rfl) (hpl:(backTo pos (starEach es X.env)).any (·.1)=false:=by rfl):PE X (.Call (.Name x p) (e::es) [] pos) (jA sp [] E0 t):=qfy D hr ha hg hdb he hpl
end
def FA (K:Frag) (f:Ac) (x q:Str) (st:Stmt):Prop:=∃ (od:Option Ac) (kV dc pm:Ab) (an:Option Ac) (cd ct:Ab) (sl:Array (Option Ab)),K.lookup f=some ⟨.type "function",od,.func (PySem.W.fnOf x q (j5 st) (ju st) (qh st) .none kV dc pm an cd ct),sl⟩∧PySem.W.codeIn K cd q=true∧PySem.W.keepIn K (.ref f)=true
theorem FA.fn {K:Frag} {f:Ac} {x q:Str} {st:Stmt} (h:FA K f x q st):∃ fd,Fun K x q st f fd∧PySem.W.keepIn K (.ref f)=true:=by
 obtain ⟨_,_,_,_,_,_,_,_,l,c,k⟩:=h;exact ⟨_,qbk l c k,k⟩
section
variable {K:Frag} {H:Hp} {v:V} {G:Prop} {s:Str} {d d1 d2 d3 d4 d5:Aa} {ds:List Aa} {ys:List V}
end
theorem jB {s r:TS} {D:Ends} {σ:St} {H:Hp} (h:∀ D':Ends,(∀ σ H,r D σ H→D'.nx σ H)→(∀ v H,D.rt v H→D'.rt v H)→s D' σ H):Jn s r D σ H:=h _ (fun _ _ q=>q) fun _ _ q=>q
theorem vx {c:TT} {t u:TS} {D:Ends} {σ:St} {H:Hp} (h:∀ B:Bool→Hp→Prop,(∀ H,t D σ H→B true H)→(∀ H,u D σ H→B false H)→c σ H B):qff c t u D σ H:=h _ (fun _ q=>jx rfl q) fun _ q=>jo rfl q
theorem bP {B:Bool→Hp→Prop} {b:Bool} {H:Hp} (e:b=true) (h:B true H):B b H:=e▸h
theorem bN {B:Bool→Hp→Prop} {b:Bool} {H:Hp} (e:b=false) (h:B false H):B b H:=e▸h
theorem vN {α:Type} {l:List α} {i:Nat} (h:i<l.length):∃ x,l[i]?=some x:=⟨_,Ah h⟩
theorem qbv {α:Type} {l:List α} {i:Nat} {x:α} (h:l[i]?=some x):l.drop i=x::l.drop (i+1):=by
 obtain ⟨hi,rfl⟩:=A2.mp h;exact List.drop_eq_getElem_cons hi
theorem qhg {X:(St→Hp→Prop)→Prop} {Z:St→Hp→Prop} (h:∀ N:St→Hp→Prop,(∀ σ H,Z σ H→N σ H)→X N):∃ N:St→Hp→Prop,(∀ σ H,N σ H→Z σ H)∧X N:=⟨Z,fun _ _ q=>q,h Z fun _ _ q=>q⟩
section
variable {K:Frag} {x qual:Str} {st:Stmt} {f:Ac} {fd:FuncData}
theorem Fun.b1 (F:Fun K x qual st f fd) (p:Str) (h:∀ (kV doc pm:Ab) (an:Option Ac) (cdv ct a:Ab),bindArgs (PySem.W.fnOf x qual (j5 st) (ju st) (qh st) .none kV doc pm an cdv ct) ⟨[a],[]⟩=pure [(p,a)]):Jv K fd [p] []:=
 F.binds fun _ _ _ _ _ _ us hl=>match us,hl with | [_],_=>h ..
theorem Fun.b2 (F:Fun K x qual st f fd) (p q:Str) (h:∀ (kV doc pm:Ab) (an:Option Ac) (cdv ct a b:Ab),bindArgs (PySem.W.fnOf x qual (j5 st) (ju st) (qh st) .none kV doc pm an cdv ct) ⟨[a,b],[]⟩=pure [(p,a),(q,b)]):Jv K fd [p,q] []:=
 F.binds fun _ _ _ _ _ _ us hl=>match us,hl with | [_,_],_=>h ..
theorem Fun.b3 (F:Fun K x qual st f fd) (p q r:Str) (h:∀ (kV doc pm:Ab) (an:Option Ac) (cdv ct a b c:Ab),bindArgs (PySem.W.fnOf x qual (j5 st) (ju st) (qh st) .none kV doc pm an cdv ct) ⟨[a,b,c],[]⟩=pure [(p,a),(q,b),(r,c)]):Jv K fd [p,q,r] []:=
 F.binds fun _ _ _ _ _ _ us hl=>match us,hl with | [_,_,_],_=>h ..
theorem Fun.b4 (F:Fun K x qual st f fd) (p q r t:Str) (h:∀ (kV doc pm:Ab) (an:Option Ac) (cdv ct a b c d:Ab),bindArgs (PySem.W.fnOf x qual (j5 st) (ju st) (qh st) .none kV doc pm an cdv ct) ⟨[a,b,c,d],[]⟩=pure [(p,a),(q,b),(r,c),(t,d)]):Jv K fd [p,q,r,t] []:=
 F.binds fun _ _ _ _ _ _ us hl=>match us,hl with | [_,_,_,_],_=>h ..
end
section
variable {X:Cx}
end
section
variable {X:Cx} {nm:Str} {np pos:Pos} {i:Expr} {ti:TE}
end
section
variable {X:Cx} {sc scope:Scope} {NX N:List Str} {js:List (Option Nat)} {elt iter tg:Expr} {ifs:List Expr} {pos:Pos} {wi:TI} {g:TG} {tt:TT} {te:TE} {z:Str}
end
end L2
namespace L2
open PySem PySem.Spec PyProof.Rows
open Sem (wp)
open Builtin
theorem qcn (l:Ac) (items:Array Ab) (n:Nat) (d:Option Ac) (sl:Array (Option Ab)) (x:Int) (u:Tok) (hc0:¬ (decide (x< -(2 ^ 63))||decide (x ≥ 2 ^ 63))=true) (hc1:¬ (items.isEmpty||x==1)=true) (hc2:¬ (decide (x≤0)||items.isEmpty)=true) (hc3:¬ (items.size:Int)*x>(2 ^ 63 - 1) / 8) (hc4:¬ Tuple.tupleTooMany ((items.size:Int)*x)=true)
  (hc5:(List.foldl (fun x1 x2=>x1++x2) #[] (List.replicate x.toNat items)).size≤Af):
  Meets (Builtin.«tuple.__mul__» ⟨[.ref l,.int x u],[]⟩) (fun _ R s=>s.heap.get? l=some {cls:= .type "tuple",dict:=d,data:= .seq items n,slots:=sl}∧R (.ok (.ret (Value.ref s.heap.objs.size))) {s with heap:=s.heap.push {cls:=Value.type "tuple",data:=Data.seq (List.foldl (fun x1 x2=>x1++x2) #[] (List.replicate x.toNat items))},toks:=s.toks}):=
 .of_wp fun prog w A R s h=>by
  obtain ⟨hp,g,d,tk,os⟩:=s;obtain ⟨hl,h⟩:=h;have f1:=AutoSeq1.idx_int;have f2:=AutoSeq1.sub_tuple_tuple
  wp_walk using Bx hl
  refine wpAny_ite_false (Ao hc0) ?_
  wp_walk using Bx hl
  refine wpAny_ite_false (Ao hc3) ?_
  wp_walk using Bx hl
  exact ⟨_,rfl,h⟩
theorem Wj:fillsNumberSlot (.type "tuple") "mul"=pure false:=PySem.fillsNumberSlot_seq (id:="tuple.__mul__") (r:=some (.builtin "tuple.__rmul__")) F.slot_tuple_mul.lookup ∅ F.slot_tuple_rmul.lookup ∅
theorem zj:seqRepeat? (.type "tuple")=pure (some (.builtin "tuple.__mul__")):=by
 unfold seqRepeat?;rw [PySem.seqSlot_of (T:="tuple") (name:="__mul__") (id:="tuple.__mul__") F.slot_tuple_mul.lookup ∅,PySem.seqSlot_of (T:="tuple") (name:="__rmul__") (id:="tuple.__rmul__") F.slot_tuple_rmul.lookup ∅];rfl
theorem YA (a:Int) (t:Tok) (l:Ac) (items:Array Ab) (n:Nat) (d:Option Ac) (sl:Array (Option Ab)):
  Meets (Builtin.«int.__rmul__» ⟨[.int a t,.ref l],[]⟩) (fun _ R s=>s.heap.get? l=some {cls:= .type "tuple",dict:=d,data:= .seq items n,slots:=sl}∧R (.ok (.ret Value.notImplemented)) s):=
 .of_wp fun prog w A R s h=>by obtain ⟨hp,g,d,tk,os⟩:=s;obtain ⟨hl,h⟩:=h;wp_walk using Bx hl;exact ⟨_,rfl,h⟩
def qh7 (K:Frag):R2:=fun x y H Q=>∃ a k xs,x= .ref a∧y= .int k∧SqT K H a xs∧xs≠[]∧2≤k∧k≤100∧xs.length≤100∧∀ p,H p=none→Q (.ref p) (upd H p (.tup (List.replicate k.toNat xs).flatten))
theorem qc8 {X:Cx}:OpR X (binaryOp .Mult) (qh7 X.K):=by
 intro pins s σ H x y v u Q I rx ry h;obtain ⟨a,k,xs,rfl,rfl,ha,hne,h1,h2,h3,q⟩:=h;cases rx;obtain ⟨t,rfl⟩:=ry;obtain ⟨its,r,⟨⟨oc,od,oda,osl⟩,e,hcl,n,hdd⟩,_⟩:=I.tuple ha;cases hcl;cases hdd;have hl:=r.length;have hni:its≠[]:=fun z=>hne (r.nil_iff.mp z);have hnew:List.foldl (fun x1 x2=>x1++x2) #[] (List.replicate k.toNat its.toArray)=(List.replicate k.toNat its).flatten.toArray:=by
  have z:=yh its k.toNat [];rw [List.nil_append] at z;exact z
 have hk:k.toNat≤100:=⋯;have hm:k.toNat*its.length≤10000:=As (Nat.mul_le_mul hk (show its.length≤100 from ⋯)) O0;have hmi:(its.toArray.size:Int)*k≤10000:=by
  have e1:(its.toArray.size:Int)=(its.length:Int):=by rw [A5]
  have e2:k=(k.toNat:Int):=⋯;rw [e1,e2,Int.mul_comm]
  exact_mod_cast hm
 have c0:¬ (decide (k< -(2 ^ 63))||decide (k ≥ 2 ^ 63))=true:=by
  rw [Ao ⋯,Ao ⋯];exact Ak
 have ne:its.toArray.isEmpty=false:=by
  cases its with
  | nil=>exact absurd rfl hni
  | cons _ _=>rfl
 have c1:¬ (its.toArray.isEmpty||k==1)=true:=by
  rw [ne,show (k==1)=false from by rw [Bv];omega]
  exact Ak
 have c2:¬ (decide (k≤0)||its.toArray.isEmpty)=true:=by
  rw [ne,Ao ⋯];exact Ak
 have c3:¬ (its.toArray.size:Int)*k>(2 ^ 63 - 1) / 8:=by
  have:(10000:Int)≤(2 ^ 63 - 1) / 8:=O0;omega
 have c4:¬ Tuple.tupleTooMany ((its.toArray.size:Int)*k)=true:=by
  unfold Tuple.tupleTooMany;have:(10000:Int)≤((Af:Nat):Int):=O0;rw [A4];omega
 have hlen:(List.replicate k.toNat its).flatten.length≤10000:=by
  rw [Zt];exact hm
 have c5:(List.foldl (fun x1 x2=>x1++x2) #[] (List.replicate k.toNat its.toArray)).size≤Af:=by
  rw [hnew,A5];exact As hlen O0
 refine wpAny_binaryOp_repeat_ref (T:="tuple") (U:="int") O0 ⟨_,e,rfl⟩ (fun s'=>typeIs_int s' k t) Wj F.fills_int_mul F.slot_int_rmul zj F.slot_int_index.lookup
  (El F.slot_int_rmul (typeIs_int s k t) F.entry_int_rmul (F.args_int_rmul_2 _ _) (YA k t a its.toArray n od osl)
   ⟨e,rfl,⟨_,e,rfl⟩,El F.slot_tuple_mul ⟨_,e,rfl⟩ F.entry_tuple_mul (F.args_tuple_mul_2 _ _) (qcn a its.toArray n od osl k t c0 c1 c2 c3 c4 c5) ⟨e,?_⟩⟩)
 rw [hnew];refine ⟨.ref s.heap.objs.size,_,I.laid (t':=s.toks) (o:= .tup (List.replicate k.toNat xs).flatten) (fun b ob z=>Ar _ z) (An _) ?_,rfl,q _ (I.hok.fresh (An _))⟩;refine ⟨?_,_,r.rep k.toNat,IsTup.new _ _⟩;rw [Zt,hl];exact As hm O0
end L2
namespace L2
open PySem PySem.Spec PyProof.Rows
section
variable {X:Cx} {K:Frag}
end
section
variable {P:Program} {w:World} {A:Around} {R:Result→Ae→Prop} {I:Ac} {fp wr:List Ac} {n:Nat} {Pv:Nat→Ab→Prop} {St:Nat→Heap→Prop}
end
section
variable {X:Cx} {K:Frag}
end
end L2
namespace HT
open PySem PyProof.Rows
section
variable {prog:Program} {w:World} {A:Around} {E:Ab→Ae→Prop} {s:Ae}
theorem whole_cut {t sl:Ac} {its:Array Ab} {vl vu:Ab} {lo hi:Option Int} {Q:Ab→Ae→Prop} (ht:IsTup s.heap t its) (hs:s.heap.IsSliceOf sl vl vu .none) (pl:IsPart vl lo) (pu:IsPart vu hi)
  (h0:sIx its.size 0 lo=0) (h1:sIx its.size its.size hi=its.size) (h:Q (.ref t) s):wpAny (model prog w) A (getItem (.ref t) (.ref sl)) Q E s:=by
 obtain ⟨os,hos,hcs,hds⟩:=id hs;have hS:s.TypeIs (.ref sl) "slice":=⟨os,hos,hcs⟩;have hT:=ht.typeIs;unfold getItem
 try with_reducible refine Es ?_
 first | refine Ai (A1 ?_) | skip
 refine Ai (wpAny_sequenceKey hT O0 (Ai (B0 (name:=Str.ofString "__getitem__") hT slot_tuple_getitem (Ch slot_tuple_getitem hT entry_tuple_getitem ?_ (args_tuple_getitem _ _)))));refine show wpAny _ _ (Builtin.Tuple.tupleItemsOf (.ref t)>>=_) _ _ s from Ai (tupleItemsOf_ ht (Ai (wpAny_typeOf hS ?_)));rw [if_pos O0];refine Ai (JM hs pl pu ?_);have yes:(((sIx its.size 0 lo:Nat):Int)==0&&(1:Int)==1&&(sIx its.size its.size hi - sIx its.size 0 lo)==its.size)=true:=by
  rw [h0,h1,Nat.sub_zero,Al,Al];exact ⟨⟨rfl,rfl⟩,Dm _⟩
 refine show wpAny _ _ (if (((sIx its.size 0 lo:Nat):Int)==0&&(1:Int)==1&&(sIx its.size its.size hi - sIx its.size 0 lo)==its.size)=true then _ else _) _ _ s from ?_
 rw [if_pos yes];obtain ⟨o,ho,hc,hd⟩:=id ht;refine Ai ?_;unfold Builtin.Tuple.tupleIsExact;refine Ai (wpAny_typeOf hT ?_);refine A1 ?_;rw [if_pos (Dm _)];exact Ai (Eu (A1 ⟨_,rfl,A1 h⟩))
end
end HT
namespace L2
open PySem PySem.Spec PyProof.Rows
open Sem (wp)
open Builtin
section
variable {X:Cx} {K:Frag}
theorem Vv {H:Hp} {p:Ac} (h:H p=none) (o:HO):qk H (upd H p o):=fun b u q=>by rw [qo fun z=>by rw [z,h] at q;cases q];exact q
def qah (K:Frag):R2:=fun x y H Q=>∃ a b xs ys,x= .ref a∧y= .ref b∧SqT K H a xs∧SqT K H b ys∧xs.length+ys.length≤Af∧∀ c H',qk H H'→SqT K H' c (xs++ys)→Q (.ref c) H'
theorem qdb:OpR X (binaryOp .Add) (qah X.K):=by
 intro pins s σ H x y v u Q I rx ry h;obtain ⟨a,b,xs,ys,rfl,rfl,ha,hb,hz,q⟩:=h
 by_cases hx:xs=[]
 ·subst hx;cases rx;cases ry;obtain ⟨its,r1,p1,_⟩:=I.tuple ha;obtain ⟨its2,r2,p2,_⟩:=I.tuple hb;obtain ⟨⟨cls,dd,data,sl⟩,ho,hc,n,hd⟩:=id p1;obtain ⟨⟨cls2,dd2,data2,sl2⟩,ho2,hc2,n2,hd2⟩:=id p2;simp only at hc hd hc2 hd2;subst hc hd hc2 hd2;have e0:its=[]:=r1.nil_iff.mpr rfl;subst e0;exact concat_meets ⟨_,ho,rfl⟩ ⟨_,ho2,rfl⟩ PySem.noFill_tuple_add PySem.seq_tuple_add PySem.F.slot_tuple_add PySem.F.entry_tuple_add (PySem.F.args_tuple_add_2 _ _)
   (tuple_addW0 a b #[] its2.toArray n n2 dd dd2 sl sl2 rfl) ⟨ho,ho2,⟨.ref b,H,I,rfl,q b H (qk.refl _) hb⟩⟩
 ·refine qda pins s σ H _ _ v u Q I rx ry ⟨a,b,xs,ys,rfl,rfl,ha,hb,hx,hz,fun e=>?_,fun e p hp=>q p _ (Vv hp _) (SqT.of upd_same)⟩;subst e;rw [Cj] at q;exact q a H (qk.refl _) ha
theorem jf (hK:X.K=K):OpR X (binaryOp .Add) (fun x y H Q=>JP x y H Q∨qah K x y H Q):=hK▸zk.or qdb
theorem Wn (hK:X.K=K):JI X (.type "list") (fun xs H Q=>∃ p ys,xs=[.ref p]∧(SqL K H p ys∨SqT K H p ys)∧∀ l,H l=none→Q (.ref l) (upd H l (.lst ys))):=hK▸Yh
def qc0 (K:Frag):V→Option Int→Option Int→Hp→VK→Prop:=fun x lo hi H Q=>∃ a xs,x= .ref a∧SqT K H a xs∧∀ c H',qk H H'→SqT K H' c (JX xs lo hi)→Q (.ref c) H'
theorem wS (hK:X.K=K):SlR X (qc0 K):=by
 subst hK;intro pins s σ H x v vl vu lo hi sl Q I rx hs pl pu h;obtain ⟨a,xs,rfl,hx,q⟩:=h
 by_cases hw:HT.sIx xs.length 0 lo=0∧HT.sIx xs.length xs.length hi=xs.length
 ·cases rx;obtain ⟨its,r,ht,hz⟩:=I.tuple hx;have hlen:its.toArray.size=xs.length:=by rw [A5];exact r.length.symm
  refine ⟨"tuple",_,slot_tuple_getitem.lookup,ht.typeIs,HT.whole_cut ht hs pl pu (by rw [hlen];exact hw.1) (by rw [hlen];exact hw.2) ⟨.ref a,H,I,rfl,q a H (qk.refl _) ?_⟩⟩
  have e:JX xs lo hi=xs:=by
   unfold JX;rw [hw.1,hw.2,List.drop_zero,Nat.sub_zero,Bp]
  rw [e];exact hx
 ·exact Q4 pins s σ H _ v vl vu lo hi sl Q I rx hs pl pu ⟨a,xs,rfl,hx,hw,fun p hp=>q p _ (Vv hp _) (SqT.of upd_same)⟩
end
theorem QO (l:Ac) (items:Array Ab) (n:Nat) (d:Option Ac) (sl:Array (Option Ab)) (u:Tok):
  Meets (Builtin.«tuple.__mul__» ⟨[.ref l,.int 1 u],[]⟩) (fun _ R s=>s.heap.get? l=some {cls:= .type "tuple",dict:=d,data:= .seq items n,slots:=sl}∧R (.ok (.ret (.ref l))) s):=
 .of_wp fun prog w A R s h=>by
  obtain ⟨hp,g,d,tk,os⟩:=s;obtain ⟨hl,h⟩:=h;have hc:(items.isEmpty||(1:Int)==1)=true:=by rw [Dm,Bool.or_true]
  have f1:=AutoSeq1.idx_int;have f2:=AutoSeq1.sub_tuple_tuple
  wp_walk using Bx hl
  exact ⟨_,rfl,h⟩
theorem QP (l:Ac) (items:Array Ab) (n:Nat) (d:Option Ac) (sl:Array (Option Ab)) (x:Int) (u:Tok) (hc0:¬ (decide (x< -(2 ^ 63))||decide (x ≥ 2 ^ 63))=true) (hc1:¬ (items.isEmpty||x==1)=true) (hc2:(decide (x≤0)||items.isEmpty)=true):
  Meets (Builtin.«tuple.__mul__» ⟨[.ref l,.int x u],[]⟩) (fun _ R s=>s.heap.get? l=some {cls:= .type "tuple",dict:=d,data:= .seq items n,slots:=sl}∧R (.ok (.ret (Value.ref s.heap.objs.size))) {s with heap:=s.heap.push {cls:=Value.type "tuple",data:=Data.seq #[]},toks:=s.toks}):=
 .of_wp fun prog w A R s h=>by
  obtain ⟨hp,g,d,tk,os⟩:=s;obtain ⟨hl,h⟩:=h;have f1:=AutoSeq1.idx_int;have f2:=AutoSeq1.sub_tuple_tuple
  wp_walk using Bx hl
  refine wpAny_ite_false (Ao hc0) ?_
  wp_walk using Bx hl
  exact ⟨_,rfl,h⟩
def qex (K:Frag):R2:=fun x y H Q=>∃ a k xs,x= .ref a∧y= .int k∧SqT K H a xs∧xs≠[]∧0≤k∧k≤100∧xs.length≤100∧∀ c H',qk H H'→SqT K H' c (List.replicate k.toNat xs).flatten→Q (.ref c) H'
theorem qga {X:Cx} {K:Frag} (hK:X.K=K):OpR X (binaryOp .Mult) (qex K):=by
 subst hK;intro pins s σ H x y v u Q I rx ry h;obtain ⟨a,k,xs,rfl,rfl,ha,hne,h1,h2,h3,q⟩:=h
 by_cases k2:2≤k
 ·exact qc8 pins s σ H _ _ v u Q I rx ry ⟨a,k,xs,rfl,rfl,ha,hne,k2,h2,h3,fun p hp=>q p _ (Vv hp _) (SqT.of upd_same)⟩
 cases rx;obtain ⟨t,rfl⟩:=ry;obtain ⟨its,r,⟨⟨oc,od,oda,osl⟩,e,hcl,n,hdd⟩,_⟩:=I.tuple ha;cases hcl;cases hdd;have hni:its≠[]:=fun z=>hne (r.nil_iff.mp z);have road:∀ {S:PySem.Spec},Meets (Builtin.«tuple.__mul__» ⟨[.ref a,.int k t],[]⟩) S→S X.A (wants (EP X pins σ Q) X.xe) s→wpAny (model X.prog X.w) X.A (binaryOp .Mult (.ref a) (.int k t)) (EP X pins σ Q) X.xe s:=fun g z=>
  wpAny_binaryOp_repeat_ref (T:="tuple") (U:="int") O0 ⟨_,e,rfl⟩ (fun s'=>typeIs_int s' k t) Wj F.fills_int_mul F.slot_int_rmul zj F.slot_int_index.lookup
   (El F.slot_int_rmul (typeIs_int s k t) F.entry_int_rmul (F.args_int_rmul_2 _ _) (YA k t a its.toArray n od osl) ⟨e,rfl,⟨_,e,rfl⟩,El F.slot_tuple_mul ⟨_,e,rfl⟩ F.entry_tuple_mul (F.args_tuple_mul_2 _ _) g z⟩)
 by_cases k0:k=0
 ·subst k0;have c1:¬ (its.toArray.isEmpty||(0:Int)==1)=true:=by
   cases its with
   | nil=>exact absurd rfl hni
   | cons _ _=>exact Ak
  refine road (QP a its.toArray n od osl 0 t O0 c1 rfl) ⟨e,?_⟩;refine ⟨.ref s.heap.objs.size,_,I.laid (t':=s.toks) (o:= .tup []) (fun b ob z=>Ar _ z) (An _) ?_,rfl,q _ _ (Vv (I.hok.fresh (An _)) _) (SqT.of upd_same)⟩;exact ⟨C6 _,[],.nil,IsTup.new _ _⟩
 ·have k1:k=1:=⋯;subst k1;refine road (QO a its.toArray n od osl t) ⟨e,⟨.ref a,H,I,rfl,q a H (qk.refl _) ?_⟩⟩;show SqT X.K H a (xs++[]);rw [Cj];exact ha
end L2
namespace L2
open PySem PySem.Spec PyProof.Rows
open Builtin
section
variable {X:Cx}
end
end L2
namespace L2
open PySem PySem.Spec PyProof.Rows
open AutoSeq1 (wpAny_loadPart')
section
variable {prog:Program} {w:World} {A:Around} {E:Ab→Ae→Prop} {s:Ae}
abbrev tIt (t:Ac) (i:Nat):Obj:={cls:= .type "tuple_iterator",data:= .fields #[.ref t,.int i 0]}
abbrev enO (it:Ac):Obj:={cls:= .type "enumerate",data:= .fields #[.none,.bool false,.ref it,rawInt 0,.none,.none]}
theorem qgw (t:Ac) (ys:Array Ab):
  Meets (Builtin.«enumerate.__new__» ⟨[.type "enumerate",.ref t],[]⟩) (fun _ R s=>s.heap.IsTuple t ys∧R (.ok (.ret (.ref (s.heap.push (tIt t 0)).objs.size))) {s with heap:=(s.heap.push (tIt t 0)).push (enO s.heap.objs.size)}):=
 .of_wp fun prog w A R s h=>by
  obtain ⟨hh,gg,dd,tt,oo⟩:=s;obtain ⟨ht,h⟩:=h;have sub:=sub_enumerate;obtain ⟨⟨c0,d0,dt0,sl0⟩,hg,hc,n0,hd⟩:=id ht
  replace hc:c0= .type "tuple":=hc
  replace hd:dt0= .seq ys n0:=hd
  subst hc hd
  wp_walk using Bx hg
  refine wpAny_stack_any fun st=>A1 ?_;split
  ·rename_i c1 _ _ _ _ _;cases (c1==Value.type "enumerate")
   ·wp_walk using Bx hg,C8 ht
    exact ⟨_,rfl,h⟩
   ·wp_walk using Bx hg,C8 ht
    exact ⟨_,rfl,h⟩
  ·wp_walk using Bx hg,C8 ht
   exact ⟨_,rfl,h⟩
theorem qd2 {t:Ac} {ys:Array Ab} {Q:Ab→Ae→Prop} (ht:s.heap.IsTuple t ys)
  (h:∀ h',IsEnum h' (s.heap.objs.size+1) s.heap.objs.size 0 .none→h'.IsTupleIter s.heap.objs.size t 0→(∀ b o,s.heap.get? b=some o→h'.get? b=some o)→Q (.ref (s.heap.objs.size+1)) {s with heap:=h'}):
  wpAny (model prog w) A (call (.type "enumerate") [.ref t]) Q E s:=by
 refine callType_new F.called_enumerate O0 (F.typeCall_enumerate_1 _) (F.newCall_enumerate_1 _) (fun ob=>F.args_object_init_2 ob _) F.entry_enumerate_new (qgw t ys) ⟨ht,?_⟩;have z:(s.heap.push (tIt t 0)).objs.size=s.heap.objs.size+1:=C2 ..;show _∧_;rw [z];have he:IsEnum ((s.heap.push (tIt t 0)).push (enO s.heap.objs.size)) (s.heap.objs.size+1) s.heap.objs.size 0 .none:=by
  have:=Bc (s.heap.push (tIt t 0)) (o:=enO s.heap.objs.size) rfl;rw [z] at this;exact this
 exact ⟨⟨_,he,rfl⟩,h _ he ⟨_,Ar _ (Bc _ rfl),rfl,rfl⟩ fun b o x=>Ar _ (Ar _ x)⟩
theorem qdf {it t:Ac} {i:Nat} {ys:Array Ab} {x:Ab} {Q:Ab→Ae→Prop} (hi:s.heap.IsTupleIter it t i) (ht:s.heap.IsTuple t ys) (hx:ys[i]?=some x)
  (q:∀ h',h'.IsTupleIter it t (i+1)→Heap.SameBut it s.heap h'→Q x {s with heap:=h'}):wpAny (model prog w) A (Builtin.SmallTypes.nextOf (.ref it)) Q E s:=by
 obtain ⟨ob,e1,e2,e3⟩:=id hi;obtain ⟨ot,f1,_,f2,f3⟩:=ht;unfold Builtin.SmallTypes.nextOf;refine Ai (B0 (name:=Str.ofString "__next__") hi.typeIs B9 (Ch B9 hi.typeIs C9 ?_ (C5 _)));show wpAny _ _ (field (.ref it) 0>>=_) _ _ s;refine Ai (Bq e1 e3 (x:= .ref t) rfl ?_);show wpAny _ _ (if (Value.ref t==Value.none)=true then _ else _) _ _ s
 rw [if_neg (show ¬ (Value.ref t==Value.none)=true from Ak)];show wpAny _ _ (field (.ref it) 1>>=_) _ _ s;refine Ai (Bq e1 e3 (x:= .int i 0) rfl ?_);show wpAny _ _ (seqItems? (.ref t)>>=_) _ _ s;refine Ai (Cu f1 f3 ?_);simp only [Bf,hx];refine Ai (wpAny_setField e1 e3 (by simp) (A1 ⟨x,rfl,A1 (q _ ?_ (Ef ..))⟩))
 exact ⟨_,Heap.get?_update_self _ e1 (Obj.isFreed_of_fields (Ej e3 _)),(Obj.cls_mapFields ..).trans e2,by rw [Ej e3];simp [rawInt]⟩
theorem qf9 {it t:Ac} {i:Nat} {ys:Array Ab} {Q:Ab→Ae→Prop} (hd:A.handled=none) (hi:s.heap.IsTupleIter it t i) (ht:s.heap.IsTuple t ys) (hx:ys[i]?=none)
  (q:∀ h' e,Heap.ExtBut it s.heap h'→(∃ o,h'.get? e=some o∧o.cls= .type "StopIteration")→E (.ref e) {s with heap:=h'}):wpAny (model prog w) A (Builtin.SmallTypes.nextOf (.ref it)) Q E s:=by
 obtain ⟨ob,e1,e2,e3⟩:=id hi;obtain ⟨ot,f1,_,f2,f3⟩:=ht;unfold Builtin.SmallTypes.nextOf;refine Ai (B0 (name:=Str.ofString "__next__") hi.typeIs B9 (Ch B9 hi.typeIs C9 ?_ (C5 _)));show wpAny _ _ (field (.ref it) 0>>=_) _ _ s;refine Ai (Bq e1 e3 (x:= .ref t) rfl ?_);show wpAny _ _ (if (Value.ref t==Value.none)=true then _ else _) _ _ s
 rw [if_neg (show ¬ (Value.ref t==Value.none)=true from Ak)];show wpAny _ _ (field (.ref it) 1>>=_) _ _ s;refine Ai (Bq e1 e3 (x:= .int i 0) rfl ?_);show wpAny _ _ (seqItems? (.ref t)>>=_) _ _ s;refine Ai (Cu f1 f3 ?_);simp only [Bf,hx];refine Ai (Eu (Ai (wpAny_setField e1 e3 (by simp) ?_)))
 show wpAny _ _ (newExc (.type "StopIteration") []>>=_) _ _ _;refine Ai ?_;simp only [newExc,newTuple];refine Ai (Cp ?_ (by size_fits))
 refine Ai (m:=firstArgMember _ _) (wpAny_of_eq (a:=Value.none) (by first | rfl | (simp only [firstArgMember];rfl)) ?_)
 refine Cp ?_ (by size_fits)
 simp only [raiseNew];refine Ai (wpAny_handled ?_)
 first | rw [show A.in1.handled=none from hd] | rw [hd]
 refine Ai (A1 (wpAny_throw ?_));exact q _ _ (((Ef ..).extBut.push _).push _) ⟨_,Bc _ rfl,rfl⟩
theorem qd1 {e it:Ac} {i:Nat} {x old:Ab} {J:Heap→Prop} {Q:Option Ab→Ae→Prop} (he:IsEnum s.heap e it i old) (ne:e≠it) (ext:∀ h h',J h→Heap.ExtBut e h h'→J h') (psh:∀ h o,J h→J (h.push o))
  (nx:∀ {B:Around} {E':Ab→Ae→Prop} (R:Ab→Ae→Prop),(∀ h',J h'→Heap.SameBut it s.heap h'→R x {s with heap:=h'})→wpAny (model prog w) B (Builtin.SmallTypes.nextOf (.ref it)) R E' s)
  (q:∀ h',IsEnumOut h' e it ((i:Int)+1) x s.heap.objs.size→J h'→h'.get? s.heap.objs.size=some {cls:= .type "tuple",data:= .seq #[.int i s.toks,x]}→(∀ b o,b≠e→b≠it→s.heap.get? b=some o→h'.get? b=some o)→Q (some (.ref s.heap.objs.size)) {s with heap:=h',toks:=s.toks+1}):
  wpAny (model prog w) A (pyNext (.ref e)) Q E s:=by
 have ty:s.TypeIs (.ref e) "enumerate":=⟨_,he,rfl⟩;unfold pyNext;refine Ai (wpAny_attempt (B0 (name:=Str.ofString "__next__") ty D4 (Ch D4 ty F.entry_enumerate_next ?_ (F.args_enumerate_next_1 _))));obtain ⟨h0,g0,d0,k0,o0⟩:=s;show wpAny _ _ (field (.ref e) 2>>=_) _ _ _;refine Ai (Bq he rfl (x:= .ref it) rfl ?_);refine Ai (nx _ fun h1 j1 s1=>?_)
 replace s1:Heap.SameBut it h0 h1:=s1
 have e1:IsEnum h1 e it i old:=(s1.2 e ne).trans he;show wpAny _ _ (field (.ref e) 3>>=_) _ _ ⟨h1,g0,d0,k0,o0⟩;refine Ai (Bq e1 rfl (x:=rawInt i) rfl ?_);show wpAny _ _ (field (.ref e) 4>>=_) _ _ ⟨h1,g0,d0,k0,o0⟩;refine Ai (Bq e1 rfl (x:= .none) rfl ?_);show wpAny _ _ (mkInt i>>=_) _ _ ⟨h1,g0,d0,k0,o0⟩;refine Ai (wpAny_mkInt ?_);show wpAny _ _ (setField (.ref e) 3 (rawInt ((i:Int)+1))>>=_) _ _ ⟨h1,g0,d0,k0+1,o0⟩;refine Ai (Ca e1 (by simp) fun h2 e2 s2=>?_)
 replace s2:Heap.SameBut e h1 h2:=s2
 replace e2:IsEnum h2 e it ((i:Int)+1) old:=e2
 show wpAny _ _ (setField (.ref e) 4 .none>>=_) _ _ ⟨h2,g0,d0,k0+1,o0⟩;refine Ai (Ca e2 (by simp) fun h3 e3 s3=>?_)
 replace s3:Heap.SameBut e h2 h3:=s3
 replace e3:IsEnum h3 e it ((i:Int)+1) old:=e3
 show wpAny _ _ (newTuple [.int i k0,x]>>=_) _ _ ⟨h3,g0,d0,k0+1,o0⟩;refine Ai (wpAny_newTuple ?_);have e4:IsEnum (h3.push {cls:= .type "tuple",data:= .seq #[.int i k0,x]}) e it ((i:Int)+1) old:=Ar _ e3;have j4:=psh _ {cls:= .type "tuple",data:= .seq #[.int i k0,x]} (ext _ _ (ext _ _ j1 s2.extBut) s3.extBut);generalize eq4:h3.push {cls:= .type "tuple",data:= .seq #[.int i k0,x]}=h4 at e4 j4;have z3:h3.objs.size=h0.objs.size:=by rw [s3.1,s2.1,s1.1]
 have lt:e<h0.objs.size:=A9 he;have t4:h4.get? h0.objs.size=some {cls:= .type "tuple",data:= .seq #[.int i k0,x]}:=by rw [← eq4,← z3];exact Bc _ rfl
 have k4:∀ b o,b≠e→b≠it→h0.get? b=some o→h4.get? b=some o:=fun b o n1 n2 hb=>by
  rw [← eq4];exact Ar _ (s3.extBut b o n1 (s2.extBut b o n1 (s1.extBut b o n2 hb)))
 show wpAny _ _ (Builtin.SmallTypes.ownedTupleIsFree (.ref e)>>=_) _ _ ⟨h4,g0,d0,k0+1,o0⟩;rw [z3];clear eq4 e3 s3 e2 s2 e1 s1 j1 z3 h3 h2 h1;refine Ai ?_;unfold Builtin.SmallTypes.ownedTupleIsFree;refine Ai (Bq e4 rfl (x:= .none) rfl (A1 ?_));simp only [if_true];refine Ai (Eu ?_);refine Ai (Bq e4 rfl (x:=old) rfl ?_);refine Ai (Ca e4 (by simp) fun h5 e5 s5=>?_)
 replace s5:Heap.SameBut e h4 h5:=s5
 replace e5:IsEnum h5 e it ((i:Int)+1) x:=e5
 show wpAny _ _ (Builtin.SmallTypes.ownedTupleHandOut (.ref e) (.ref h0.objs.size)>>=_) _ _ ⟨h5,g0,d0,k0+1,o0⟩;refine Ai ?_;unfold Builtin.SmallTypes.ownedTupleHandOut;refine Ai (Ca e5 (by simp) fun h6 e6 s6=>?_)
 replace s6:Heap.SameBut e h5 h6:=s6
 replace e6:IsEnumOut h6 e it ((i:Int)+1) x h0.objs.size:=e6
 refine Ca e6 (by simp) fun h7 e7 s7=>?_
 replace s7:Heap.SameBut e h6 h7:=s7
 replace e7:IsEnumOut h7 e it ((i:Int)+1) x h0.objs.size:=e7
 refine Ai (wpAny_letGo (A1 ⟨_,rfl,A1 (q h7 e7 (ext _ _ (ext _ _ (ext _ _ j4 s5.extBut) s6.extBut) s7.extBut) ?_ ?_)⟩))
 ·exact s7.extBut _ _ (Cy lt) (s6.extBut _ _ (Cy lt) (s5.extBut _ _ (Cy lt) t4))
 ·exact fun b o n1 n2 hb=>s7.extBut b o n1 (s6.extBut b o n1 (s5.extBut b o n1 (k4 b o n1 n2 hb)))
theorem qgx {e it:Ac} {i:Nat} {old:Ab} {Q:Option Ab→Ae→Prop} (he:IsEnum s.heap e it i old)
  (nx:∀ {B:Around} {E':Ab→Ae→Prop} (R:Ab→Ae→Prop),B.handled=A.handled→(∀ h' x,Heap.ExtBut it s.heap h'→(∃ o,h'.get? x=some o∧o.cls= .type "StopIteration")→E' (.ref x) {s with heap:=h'})→wpAny (model prog w) B (Builtin.SmallTypes.nextOf (.ref it)) R E' s)
  (q:∀ h',Heap.ExtBut it s.heap h'→Q none {s with heap:=h'}):wpAny (model prog w) A (pyNext (.ref e)) Q E s:=by
 have ty:s.TypeIs (.ref e) "enumerate":=⟨_,he,rfl⟩;unfold pyNext;refine Ai (wpAny_attempt (B0 (name:=Str.ofString "__next__") ty D4 (Ch D4 ty F.entry_enumerate_next ?_ (F.args_enumerate_next_1 _))));show wpAny _ _ (field (.ref e) 2>>=_) _ _ _;refine Ai (Bq he rfl (x:= .ref it) rfl ?_);refine Ai (nx _ rfl fun h' x he' hx'=>?_);obtain ⟨o,ho,hc⟩:=hx';refine Ai (wpAny_isInstance (T:="StopIteration") (b:=true) ⟨o,ho,hc⟩ isSubtype_stop ?_);exact A1 (q _ he')
end
def ItE (K:Frag) (t:Ac):It:=
 ⟨fun i H=>∃ xs x,SqT K H t xs∧xs[i]?=some x,
  fun i H v H'=>∃ p x,H p=none∧v= .ref p∧(∀ xs,SqT K H t xs→xs[i]?=some x)∧H'=upd H p (.tup [.int (i:Nat),x]),
  fun i H=>∃ xs,SqT K H t xs∧xs.length≤i⟩
theorem Xj {P:Program} {w:World} {K:Frag} {elts:List Expr} {c:Nat} {pos:Pos} {e it t:Ac} (hei:e≠it):
  Turn P w K (.Tuple elts c pos) (ItE K t) [e,it] e (fun i h=>(∃ old,IsEnum h e it (i:Int) old)∧h.IsTupleIter it t i) where
 mem:=by simp
 obj:=fun i h st x hx=>by
  obtain ⟨⟨old,he⟩,⟨o1,e1,c1,d1⟩⟩:=st;simp only [Av,A7,or_false] at hx;rcases hx with rfl | rfl
  ·exact ⟨_,he,fun v z=>by cases z⟩
  ·exact ⟨o1,e1,fun v z=>by rw [d1] at z;cases z⟩
 keep:=fun i h h' st k=>by
  obtain ⟨⟨old,he⟩,⟨o1,e1,r1⟩⟩:=st;exact ⟨⟨old,k e (by simp) _ he⟩,⟨o1,k it (by simp) o1 e1,r1⟩⟩
 item:=by
  intro X hP hw hK hc i pins s σ H E I hf st hg;subst hP hw hK;obtain ⟨xs,x,hq,hx⟩:=hg;obtain ⟨its,rv,p,hz⟩:=I.tuple hq;obtain ⟨u,hu,ru⟩:=rv.get hx;obtain ⟨⟨old,he⟩,hit⟩:=st;refine qd1 (J:=fun h=>h.IsTupleIter it t (i+1)) he hei (fun h h' j k=>j.extBut k hei.symm) (fun h o j=>by
   obtain ⟨ob,z,r⟩:=j;exact ⟨ob,Ar _ z,r⟩) (fun R r=>qdf hit (show s.heap.IsTuple t its.toArray from p) (x:=u) (by simpa using hu) r) fun h1 z1 k1 pr kk=>?_
  refine ⟨_,rfl,wpAny_letOwnedTupleGo_enum (s:={s with heap:=h1,toks:=s.toks+1}) z1 fun h2 z2 sb=>?_⟩
  have kk2:∀ c o,c∉[e,it]→s.heap.get? c=some o→h2.get? c=some o:=fun c o hc z=>by
   simp only [Av,A7,or_false,not_or] at hc;exact sb.extBut _ _ hc.1 (kk c o hc.1 hc.2 z)
  have I1:Inv X pins σ H {s with heap:=h2,toks:=s.toks+1}:=I.turns (t':=s.toks+1) (ch:=[e,it]) (fun b hb=>hf b hb) kk2
  have helt:e<s.heap.objs.size:=A9 he;have pr2:h2.get? s.heap.objs.size=some {cls:= .type "tuple",data:= .seq #[.int (i:Nat) s.toks,u]}:=sb.extBut _ _ (Cy helt) pr;have f:=I.fpOk (b:=s.heap.objs.size) (H':=H) (An _) (I.hok.fresh (An _));have I2:Inv X pins σ (upd H s.heap.objs.size (.tup [.int (i:Nat),x])) {s with heap:=h2,toks:=s.toks+1}:=I1.trackN f.1 f.2.1 (D6 I.sz) f.2.2.2.2.1 f.2.2.2.2.2 ⟨by simp [Af],[.int (i:Nat) s.toks,u],.cons ⟨_,rfl⟩ (.cons ru .nil),⟨_,pr2,rfl,_,rfl⟩⟩
  refine ⟨.ref s.heap.objs.size,_,I2,rfl,⟨s.heap.objs.size,x,f.1,rfl,fun zs hzs=>by rw [I.tuple_inj hzs hq];exact hx,rfl⟩,?_,fun b hb=>?_⟩
  ·exact ⟨⟨_,z2⟩,k1.extBut sb.extBut hei.symm⟩
  ·rw [qo (fun z=>?_)]
   ·exact (hf b hb).1
   ·have lt:b<s.heap.objs.size:=by
     obtain ⟨o1,e1,c1,d1⟩:=hit;simp only [Av,A7,or_false] at hb;rcases hb with rfl | rfl
     ·exact helt
     ·exact A9 e1
    exact B1 lt z
 done:=by
  intro X hP hw hK hc i pins s σ H E I hf st hg;subst hP hw hK;obtain ⟨xs,hq,hl⟩:=hg;obtain ⟨its,rv,p,hz⟩:=I.tuple hq;have l1:=rv.length;obtain ⟨⟨old,he⟩,hit⟩:=st;refine qgx he (fun R hB r=>qf9 (hB.trans (I.ok.hd hc)) hit (show s.heap.IsTuple t its.toArray from p) (by simp;omega) r) fun h1 kk=>⟨rfl,?_⟩
  exact I.turns (t':=s.toks) (ch:=[e,it]) (fun b hb=>hf b hb) fun c o hc z=>kk c o (fun y=>hc (by simp [y])) z
 self:=fun _ _ _ _ _ st h=>Em st.1.choose_spec h
def qgq (K:Frag) (ta:TA):TI:=fun σ H R=>ta σ H fun vs H1=>∃ a:Ac,vs=[.ref a]∧(∃ xs,SqT K H1 a xs)∧R (ItE K a) H1
theorem qaq {X:Cx} {K:Frag} {elts:List Expr} {c:Nat} {tpos:Pos} {a:Expr} {ta:TA} {p pos:Pos} (hK:X.K=K) (hm:X.mg "enumerate"=none) (ha:PA X [a] ta) (hg:Gl X "enumerate":=by rfl)
  (hs:starEach [a] X.env=[(false,eval a X.env)]:=by rfl):PI X (.Tuple elts c tpos) (.Call (.Name "enumerate" p) [a] [] pos) (qgq K ta):=by
 intro pins s σ H R I h;subst hK;refine Call_ (vL I hg hm VG (Cm (thn (ha pos pins s σ H _ I h) fun us s1 ⟨vs,H1,I1,r1,l,e,⟨xs,hx⟩,q⟩=>?_) hs rfl));subst e;obtain ⟨u1,rfl,r⟩:=v5 r1;cases r;obtain ⟨its,rv,pl,hz⟩:=I1.tuple hx;refine qd2 (show s1.heap.IsTuple l its.toArray from pl) fun h' Z1 Z2 k=>?_;refine Em Z1 ⟨_,[s1.heap.objs.size+1,s1.heap.objs.size],_,_,H1,rfl,I1.kept (t':=s1.toks) k,Xj (Cy (D8 _)),⟨⟨_,Z1⟩,Z2⟩,fun b hb=>?_,q⟩;have hb':s1.heap.objs.size≤b:=by
  simp only [Av,A7,or_false] at hb;rcases hb with e | e <;> rw [e] <;> first | exact Nat.le_succ _ | exact An _
 exact I1.fpOk hb' (I1.hok.fresh hb')
section
variable {X:Cx}
theorem qiv:PIp X .BitOr (ipI fun i j=>Builtin.bitOr i j):=by
 intro pins s σ H x y v u Q I r1 r2 h;obtain ⟨i,j,rfl,rfl,q⟩:=h;obtain ⟨t,rfl⟩:=r1;obtain ⟨t',rfl⟩:=r2;exact ior_int ⟨.int _,H,I.tok _,⟨_,rfl⟩,q⟩
theorem qgp:PIp X .BitAnd (ipI fun i j=>Builtin.bitAnd i j):=by
 intro pins s σ H x y v u Q I r1 r2 h;obtain ⟨i,j,rfl,rfl,q⟩:=h;obtain ⟨t,rfl⟩:=r1;obtain ⟨t',rfl⟩:=r2;exact iand_int ⟨.int _,H,I.tok _,⟨_,rfl⟩,q⟩
theorem qe4:qjb X .BitOr (ipI fun i j=>Builtin.bitOr i j):=by
 rintro pins s σ H x y u v Q I rx ry ⟨i,j,rfl,rfl,q⟩;obtain ⟨t,rfl⟩:=(show ∃ t,u=Value.int i t from rx);obtain ⟨t',rfl⟩:=(show ∃ t',v=Value.int j t' from ry);exact ior_int ⟨.int _,H,I.tok _,⟨_,rfl⟩,q⟩
end
end L2
namespace L2
open PySem PySem.Spec PyProof.Rows
theorem Xu {prog:Program} {w:World} {A:Around} {E:Ab→Ae→Prop} {s:Ae} {it d:Ac} {i n ep:Nat} {Q:Ab→Ae→Prop} (x:s.heap.IsKeyIter it d i n ep) (h:Q (.ref it) s):wpAny (model prog w) A (pyIter (.ref it)) Q E s:=by
 refine wpAny_pyIter_slot x.typeIs F.slot_dict_keyiterator_iter (Ch F.slot_dict_keyiterator_iter x.typeIs F.entry_dict_keyiterator_iter ?_ (F.args_dict_keyiterator_iter_1 _));show wpAny _ _ (ret (.ref it)) _ _ s;exact A1 ⟨_,rfl,"dict_keyiterator",_,x.typeIs,F.slot_dict_keyiterator_next.lookup,h⟩
def Itd (d:Ac) (o:Obj) (kvs:List (Key×V)):It:=
 ⟨fun i H=>H d=some (.frz o (.dK kvs))∧i<kvs.length,fun i H x H'=>H'=H∧∃ p,kvs[i]?=some p∧x=kV p.1,fun i H=>H d=some (.frz o (.dK kvs))∧kvs.length≤i⟩
section
variable {X:Cx} {pins:List (Ac×Obj)} {σ:St} {H:Hp} {s:Ae}
theorem Inv.known {d:Ac} {o:Obj} {kvs:List (Key×V)} (I:Inv X pins σ H s) (hd:H d=some (.dK kvs)) (ho:s.heap.get? d=some o):Inv X pins σ (upd H d (.frz o (.dK kvs))) s:=by
 have ne:∀ {b:Ac} {u:HO},H b=some u→(∀ k,u≠ .dK k)→b≠d:=fun e z w=>by
  rw [w,hd] at e;exact z _ (Bh e).symm
 refine I.step (g':=s.gens) (d':=s.drawn) (t':=s.toks) (h':=s.heap) (ch:=[]) (fun _ z=>nomatch z) (fun b ob _ _ _ e _=>e) (fun b ob _ _ _ e _=>⟨ob.slots,e⟩) (fun b ob _ _ n=>by rw [qo fun z=>by rw [z,hd] at n;cases n];exact n) (fun b ob _ e=>⟨ob,e⟩)
  (fun b xs e=>by rw [qo (ne e fun k z=>by cases z)];exact e) (fun b ob u e=>by rw [qo (ne e fun k z=>by cases z)];exact e) (fun b ps e=>⟨#[],by rw [qo (ne e fun k z=>by cases z),e];simp⟩) (fun m hm=>hm) (fun b u e=>?_) I.bare
 have stay:∀ {b:Ac} {u:HO},H b=some u→zt X.prog X.w (upd H d (.frz o (.dK kvs))) s.heap b u:=fun {b u} q=>(I.hok b u q).stay (fun c v _ r=>r) (fun c r=>by rw [qo (ne r fun k z=>by cases z)];exact r) fun c xs r=>by rw [qo (ne r fun k z=>by cases z)];exact r
 by_cases hb:b=d
 ·subst hb;rw [upd_same] at e;cases e;exact ⟨ho,stay hd⟩
 ·rw [qo hb] at e;exact stay e
end
theorem qdq {k:Key} {u:Ab} (h:wn k u=true):qz (kV k) u:=by
 rcases zq h with ⟨j,t,rfl,rfl⟩ | ⟨y,t,rfl,rfl⟩
 ·exact ⟨t,rfl⟩
 ·exact ⟨t,rfl⟩
theorem ZU {P:Program} {w:World} {K:Frag} {tg:Expr} {it d:Ac} {o:Obj} {kvs:List (Key×V)} {ep:Nat} (hep:∃ es,o.data= .dict es ep):Turn P w K tg (Itd d o kvs) [it] it (fun i h=>h.IsKeyIter it d i kvs.length ep) where
 mem:=by simp
 obj:=fun i h st b hb=>by
  have e:b=it:=by simpa using hb
  subst e;obtain ⟨ob,e,c,z⟩:=st;exact ⟨ob,e,fun v y=>by rw [z] at y;cases y⟩
 keep:=fun i h h' st k=>by
  obtain ⟨ob,e,r⟩:=st;exact ⟨ob,k it (by simp) ob e,r⟩
 item:=by
  intro X hP hw hK hc i pins s σ H E I hf st hg;subst hP hw hK;obtain ⟨hd,hi⟩:=hg;obtain ⟨e0,_,_,vs,rel,o',es,ep',ho',r1,r2,r3⟩:=(show zt X.prog X.w H s.heap d (.frz o (.dK kvs)) from I.hok d _ hd);rw [e0] at ho';cases ho';obtain ⟨es0,z0⟩:=hep;rw [z0] at r2;cases r2;have hl:vs.length=kvs.length:=by have:=congrArg List.length rel.keys;simpa using this.symm
  obtain ⟨k,v,hkv⟩:∃ k v,vs[i]?=some (k,v):=⟨_,_,Ah ⋯⟩;obtain ⟨f0,f1,f2,f3,f4,f5⟩:=hf it (by simp)
  have st1:s.heap.IsKeyIter it d i vs.length ep:=by rw [hl];exact st
  refine wpAny_pyNext_dict_item (knd:=zc X.prog X.w) st1 ⟨o,_,e0,r1,z0,r3⟩ hkv fun key h' hk st' sb=>?_;have I1:Inv X pins σ H {s with heap:=h'}:=I.turned (t':=s.toks) (fun b ob hb e=>(sb.2 b hb).trans e) f0 f1 f3 f4 f5
  rw [hl] at st';obtain ⟨ob,e,c,z⟩:=id st';have hk2:(kvs.map (·.1))[i]?=some k:=by rw [rel.keys,Au,hkv];rfl
  rw [Au] at hk2;obtain ⟨p,hp,rfl⟩:=C7.mp hk2;exact ⟨key,rfl,Y2 (s:={s with heap:=h'}) e c z O0 ⟨kV p.1,H,I1,qdq hk,⟨rfl,p,hp,rfl⟩,st',fun b hb=>(hf b hb).1⟩⟩
 done:=by
  intro X hP hw hK hc i pins s σ H E I hf st hg;subst hP hw hK;obtain ⟨hd,hi⟩:=hg;obtain ⟨e0,_,_,vs,rel,o',es,ep',ho',r1,r2,r3⟩:=(show zt X.prog X.w H s.heap d (.frz o (.dK kvs)) from I.hok d _ hd);rw [e0] at ho';cases ho';obtain ⟨es0,z0⟩:=hep;rw [z0] at r2;cases r2;have hl:vs.length=kvs.length:=by have:=congrArg List.length rel.keys;simpa using this.symm
  obtain ⟨f0,f1,f2,f3,f4,f5⟩:=hf it (by simp)
  have st1:s.heap.IsKeyIter it d i vs.length ep:=by rw [hl];exact st
  exact wpAny_pyNext_dict_end (knd:=zc X.prog X.w) (I.ok.hd hc) st1 ⟨o,_,e0,r1,z0,r3⟩ (List.getElem?_eq_none ⋯) fun h' eb=>⟨rfl,I.turned (t':=s.toks) (fun b ob hb e=>eb b ob hb e) f0 f1 f3 f4 f5⟩
 self:=fun _ _ _ _ _ st h=>Xu st h
def qi0 (tl:TE):TI:=fun σ H R=>tl σ H fun x H1=>∃ d kvs,x= .ref d∧H1 d=some (.dK kvs)∧∀ o,R (Itd d o kvs) (upd H1 d (.frz o (.dK kvs)))
theorem qc1 {X:Cx} {tg l:Expr} {tl:TE} (hl:PE X l tl):PI X tg l (qi0 tl):=by
 intro pins s σ H R I h;refine thn (hl pins s σ H _ I h) fun v s1 ⟨x,H1,I1,r1,q1⟩=>?_;obtain ⟨d,kvs,e,hd,q⟩:=q1;subst e;cases r1;obtain ⟨_,lo,vs,rel,o,es,ep,ho,r⟩:=(show zt X.prog X.w H1 s1.heap d (.dK kvs) from I1.hok d _ hd);have hln:vs.length=kvs.length:=by have:=congrArg List.length rel.keys;simpa using this.symm
 refine wpAny_pyIter_dict (knd:=zc X.prog X.w) lo ⟨o,es,ho,r⟩ ?_;have I2:=I1.known hd ho;refine ⟨s1.heap.objs.size,[s1.heap.objs.size],_,_,_,rfl,I2.kept (t':=s1.toks) fun b ob e=>Ar _ e,ZU (ep:=ep) ⟨es,r.2.1⟩,⟨_,Bc _ rfl,rfl,by rw [hln];rfl⟩,fun b hb=>?_,q o⟩
 have e:b=s1.heap.objs.size:=by simpa using hb
 subst e;exact I2.fpOk (An _) (I2.hok.fresh (An _))
end L2
namespace L2
open PySem PySem.Spec PyProof.Rows
open AutoSeq1 (wpAny_loadPart')
theorem qdz (l b:Ac) (xs ys:Array Ab) (n m:Nat) (dd:Option Ac) (sl:Array (Option Ab)) (h0:¬(!xs.isEmpty&&Builtin.List.listTooLong (xs.size+ys.size))=true) (h1:xs.size≤Af) (h2:xs.size+ys.size≤Af+1):
  Meets (Builtin.«list.extend» ⟨[.ref l,.ref b],[]⟩) (fun _ R s=>s.heap.get? l=some {cls:= .type "list",dict:=none,data:= .seq xs n,slots:= #[]}∧s.heap.get? b=some {cls:= .type "tuple",dict:=dd,data:= .seq ys m,slots:=sl}∧R (.ok (.ret Value.none)) {s with heap:=s.heap.update l (Obj.mapSeq fun x=>x++ys),toks:=s.toks}):=
 .of_wp fun prog w A R s h=>by
  obtain ⟨hh,gg,d0,tk,os⟩:=s;obtain ⟨hl,hb,h⟩:=h;have f2:=PySem.AutoSeq1.sub_tuple_tuple;have f3:=PySem.AutoSeq1.sub_list_list;have f4:=PySem.AutoSeq1.sub_tuple_list;have f5:=PySem.AutoSeq1.sub_list_tuple;have hz:(xs++ys).size≤Af+1:=by rw [Array.size_append];exact h2
  wp_walk using (wpAny_updateSeq hl rfl (hz:=h1) (_hz':=hz)),Bx hl,Bx hb
  exact ⟨_,rfl,h⟩
section
variable {X:Cx} {K:Frag}
def qib (K:Frag):V→List V→Hp→VK→Prop:=fun x vs H Q=>∃ l b xs zs,x= .ref l∧vs=[.ref b]∧H l=some (.lst xs)∧SqT K H b zs∧xs.length+zs.length≤Af∧Q .non (upd H l (.lst (xs++zs)))
theorem qdl (hK:X.K=K):MtM X "list.extend" (qib K):=by
 intro pins s σ H x vs v us Q I rx rv h;subst hK;obtain ⟨l,b,xs,zs,rfl,rfl,hH,hB,hz,q⟩:=h;cases rx;obtain ⟨u,rfl,ru⟩:=rv.one;cases ru;obtain ⟨z,its,n,r,hl,e⟩:=I.lstM hH;obtain ⟨its2,r2,⟨⟨c2,d2,dt2,sl2⟩,e2,hc2,m,hd2⟩,z2⟩:=I.tuple hB
 replace hc2:c2= .type "tuple":=hc2
 replace hd2:dt2= .seq its2.toArray m:=hd2
 subst hc2 hd2;have l1:=r.length;have l2:=r2.length;have hsz:its.toArray.size+its2.toArray.size≤Af:=by rw [A5,A5];omega
 have hlong:¬ (!its.toArray.isEmpty&&Builtin.List.listTooLong (its.toArray.size+its2.toArray.size))=true:=by
  rw [qa2 hsz,Bool.and_false];exact Ak
 refine El F.slot_list_extend ⟨_,e,rfl⟩ F.entry_list_extend (F.args_list_extend_2 _ _) (qdz l b its.toArray its2.toArray n m d2 sl2 hlong (by rw [A5];omega) ⋯) ⟨e,e2,?_⟩
 refine ⟨.non,_,I.lset (its':=its++its2) hH e (by simp) (r.append r2) ?_,rfl,q⟩
 rw [Ax];omega
end
theorem qc4 {X:Cx} {K:Frag} {e:Expr} {f:Str} {pos:Pos} {ta:TE} (hK:X.K=K) (he:PE X e ta) (hb:attributeBase e f X.env (eval e X.env)=eval e X.env):PE X (.Attribute e f pos) (qhj K ta f):=hK▸VW he hb
theorem jn {J:It} {g:TG} {tb:TS} {D:Ends} {σ:St} {H1:Hp} (n:Nat) (Pv:Nat→St→Hp→Prop) (h0:Pv 0 σ H1)
  (hs:∀ i σ H,i<n→Pv i σ H→J.go i H∧∀ x H',J.yld i H x H'→∀ N:St→Hp→Prop,(∀ σ' H',Pv (i+1) σ' H'→N σ' H')→g x σ H' fun σ2 H2=>tb {D with nx:=N,ct:=N,bk:=D.nx} σ2 H2)
  (hd:∀ σ H,Pv n σ H→J.stop n H∧D.nx σ H):∃ W:Nat→Nat→St→Hp→Prop,(∃ m,W 0 m σ H1)∧∀ i m σ H,W i m σ H→
 (J.stop i H∧D.nx σ H)∨(J.go i H∧∃ N:St→Hp→Prop,(∀ σ' H',N σ' H'→∃ m',m'<m∧W (i+1) m' σ' H')∧∀ x H',J.yld i H x H'→g x σ H' fun σ2 H2=>tb {D with nx:=N,ct:=N,bk:=D.nx} σ2 H2):=by
 refine ⟨fun i m σ H=>m=n - i∧i≤n∧Pv i σ H,⟨n,by simp,C6 _,h0⟩,?_⟩
 rintro i m σ H ⟨rfl,hi,p⟩
 by_cases hlt:i<n
 ·obtain ⟨a,b⟩:=hs i σ H hlt p;exact .inr ⟨a,Pv (i+1),fun σ' H' p'=>⟨n - (i+1),⋯,rfl,hlt,p'⟩,fun x H' y=>b x H' y _ fun _ _ q=>q⟩
 ·have e:i=n:=⋯;subst e;exact .inl (hd σ H p)
end L2
namespace Bud
section
variable {n m i s s1 s2 s3 t t1 t2 t3:Nat} {deep k l k1 l1 k2 l2 k3 l3 k' l':Int}
end
end Bud
namespace Grf
theorem nodup_len:∀ (N:Nat) (f:List Nat),f.Nodup→(∀ x∈f,x<N)→f.length≤N
 | 0,f,_,h=>by
  cases f with
  | nil=>exact An _
  | cons a r=>exact absurd (h a Bi) (Nat.not_lt_zero _)
 | N+1,f,nd,h=>by
  have e:(f.filter fun x=>decide (x≠N)).length≤N:=nodup_len N _ (nd.filter _) fun x hx=>by
   obtain ⟨h1,h2⟩:=Dp.mp hx;have h3:x≠N:=Co h2;have h4:=h x h1;omega
  have g:∀ l:List Nat,l.Nodup→l.length≤(l.filter fun x=>decide (x≠N)).length+1:=fun l=>by
   induction l with
   | nil=>intro _;exact C6 _
   | cons a r ih=>
    intro nd
    by_cases ha:a=N
    ·have hr:r.filter (fun x=>decide (x≠N))=r:=by
      refine List.filter_eq_self.mpr fun x hx=>Am fun z=>?_;rw [← ha] at z;exact (Ck.mp nd).1 (z▸hx)
     rw [D7,if_neg (by simp [ha]),hr]
     exact An _
    ·rw [D7,if_pos (by simp [ha])]
     have:=ih (Ck.mp nd).2;simp only [Bj];omega
  have:=g f nd;omega
variable {adj:Nat→List Nat} {S f a a':List Nat} {n:Nat}
end Grf
namespace Tre
open PySem
def JH (x:Str):Bool:=decide (1≤x.length)&&decide (x.length≤8)&&x.cps.toList.all fun c=>decide (97≤c)&&decide (c≤122)
def XE (i:Int):Bool:=decide (-1000000000000≤i)&&decide (i≤1000000000000)
def jm:Aa→Bool
 | .str x=>JH x
 | _=>false
def Jt:Aa→Bool
 | .int i=>XE i
 | _=>false
def JV (d:Aa) (most:Nat):Bool:=match d with
 | .tuple xs=>decide (xs.length≤most)
 | _=>false
def txt:Aa→Str
 | .str x=>x
 | _=>""
def qch:Aa→Bool
 | .tuple xs=>decide (xs.length≤4)&&xs.all jm&&decide ((xs.map txt).Nodup)
 | _=>false
abbrev signs:List Str:=["+","-","*","<","="]
abbrev forms:List (Str×List Str):=[("main",["names","body"]),("number",["number"]),("name",["name"]),("two",["sign","term","term"]),("fun",["names","body"]),("loop",["names","body"]),("call",["term","terms"]),("step",["term","term"]),
 ("let",["name","term"]),("set",["name","term"]),("do",["term"]),("if",["term","body","body"]),("while",["term","body"]),("hand",["term"]),("back",["term"]),("fault",["word","term"]),("try",["body","name","name","body","body"])]
abbrev heads:List (Str×List Str):=[("program",["main"]),("term",["number","name","two","fun","loop","call","step"]),("statement",["let","set","do","if","while","hand","back","fault","try"])]
abbrev qdo:List (Str×Str):=[("names","name"),("terms","term"),("body","statement")]
def qJ (d:Aa) (sh:Str):Bool:=
 if sh=="number" then Jt d else if sh=="name" then jm d else if sh=="word" then (match d with | .str x=>JH x&&x !="any" | _=>false)
 else if sh=="sign" then (match d with | .str x=>signs.any fun y=>y==x | _=>false) else if sh=="names" then qch d else if sh=="terms" then JV d 4 else if sh=="body" then JV d 12 else true
def qQ (ts:List Aa) (fs:List Str):Bool:=decide (ts.length=fs.length)&&(ts.zip fs).all fun p=>qJ p.1 p.2
def zw (d:Aa) (sh:Str) (hands:Bool):Bool:=match d with
 | .tuple (.str h::ts)=>(((heads.lookup sh).getD []).any fun y=>y==h)&&!(h=="hand"&&!hands)&&qQ ts ((forms.lookup h).getD [])
 | _=>false
def qdu (t:Aa) (sh:Str):List (Aa×Str):=
 if sh=="term" then [(t,sh)] else if sh=="terms"||sh=="body" then (match t with | .tuple xs=>xs.map fun x=>(x,(qdo.lookup sh).getD "") | _=>[]) else []
def qiw:Aa→List (Aa×Str)
 | .tuple (.str h::ts)=>(ts.zip ((forms.lookup h).getD [])).flatMap fun p=>qdu p.1 p.2
 | _=>[]
def kids (d:Aa):List Aa:=(qiw d).map (·.1)
mutual
inductive Tr:Aa→Nat→Nat→Prop
 | mk {d:Aa} {sh:Str} {hands:Bool} {s t:Nat}:zw d sh hands=true→Trl (kids d) s t→Tr d (s+1) (t+1)
inductive Trl:List Aa→Nat→Nat→Prop
 | nil:Trl [] 0 0
 | cons {d:Aa} {ds:List Aa} {s t s' t':Nat}:Tr d s t→Trl ds s' t'→Trl (d::ds) (s+s') (max t t')
end
mutual
theorem Tr.deep:∀ {d:Aa} {s t:Nat},Tr d s t→t≤s
 | _,_,_,.mk _ h=>Dk (Trl.deep h)
theorem Trl.deep:∀ {ds:List Aa} {s t:Nat},Trl ds s t→t≤s
 | _,_,_,.nil=>An _
 | _,_,_,.cons h1 h2=>by
  have a:=Tr.deep h1;have b:=Trl.deep h2;omega
end
end Tre
namespace Nam
open PySem
def one (c:Nat):Str:=⟨#[c]⟩
def wrd (cs:List Nat):Str:=⟨cs.toArray⟩
theorem qcm (cs:List Nat):(wrd cs).length=cs.length:=by simp [wrd,Str.length]
theorem yb:∀ cs:List Nat,(Str.join (Str.ofString "") (cs.map one)).cps.toList=cs
 | []=>∅
 | [c]=>rfl
 | c::d::r=>by
  have ih:=yb (d::r);rw [Bb] at ih;show ((one c)++Str.ofString ""++Str.join (Str.ofString "") (one d::r.map one)).cps.toList=_;have e:∀ a b:Str,(a++b).cps.toList=a.cps.toList++b.cps.toList:=fun a b=>by
   show (a.cps++b.cps).toList=_;simp
  rw [e,e,ih];rfl
theorem qbe (cs:List Nat):Txt.join (Str.ofString "") (cs.map one)=wrd cs:=by
 rw [Bd.mp (PyProof.Rows.join_plain_closes (Str.ofString "") _)];have h:=yb cs;generalize Str.join (Str.ofString "") (cs.map one)=x at h;cases x with
 | mk a=>subst h;rfl
theorem qa1 (cs:List Nat):((cs.map one).map (·.length)).sum=cs.length:=by
 induction cs with
 | nil=>rfl
 | cons c r ih=>
  rw [Bb,Bb,List.sum_cons,ih,Bj];show 1+_=_;omega
end Nam
namespace Cod
open PySem
def y1:Aa→Bool
 | .int _=>true
 | _=>false
def intOf:Aa→Int
 | .int i=>i
 | _=>0
def qy (n:Int):Aa→Bool
 | .int i=>decide (0≤i)&&decide (i<n)
 | _=>false
def isTup (lo hi:Nat):Aa→Bool
 | .tuple xs=>decide (lo≤xs.length)&&decide (xs.length≤hi)
 | _=>false
def qds:Aa→Bool
 | .tuple _=>true
 | _=>false
def Wp:Aa→Bool
 | .none=>true
 | _=>false
def Zv (l:List Int):Aa→Bool
 | .int i=>l.any fun y=>y==i
 | _=>false
mutual
def fit:Aa→Bool
 | .str x=>decide (x.length≤1000000)
 | .list xs=>vn xs
 | .tuple xs=>decide (xs.length≤1000000)&&vn xs
 | _=>true
def vn:List Aa→Bool
 | []=>true
 | x::xs=>fit x&&vn xs
end
theorem Wx:∀ {xs:List Aa},vn xs=true→∀ x∈xs,fit x=true
 | [],_,x,hx=>nomatch hx
 | y::r,h,x,hx=>by
  rw [vn,Al] at h;rcases Av.mp hx with rfl | hx
  ·exact h.1
  ·exact Wx h.2 x hx
theorem vk {ds:List Aa} (h:fit (.tuple ds)=true):ds.length≤1000000∧vn ds=true:=by simpa [fit] using h
theorem VF {ds:List Aa} {d:Aa} (h:fit (.tuple ds)=true) (e:d∈ds):fit d=true:=Wx (vk h).2 d e
theorem vO {ds:List Aa} {d:Aa} {i:Nat} (h:fit (.tuple ds)=true) (e:ds[i]?=some d):fit d=true:=VF h (A0 e)
def Jg:Aa→Bool
 | .tuple [.str _,_]=>true
 | _=>false
theorem qfa {d:Aa} (h:isTup 2 2 d=true):∃ a b,d= .tuple [a,b]:=by
 cases d with
 | tuple xs=>
  simp only [isTup,Al,A4] at h
  match xs,h with
  | [a,b],_=>exact ⟨a,b,rfl⟩
  | [],h=>simp at h
  | [_],h=>simp at h
  | _::_::_::_,h=>simp at h
 | _=>exact absurd h Ak
theorem Zj {d:Aa} (h:Jg d=true):∃ w b,d= .tuple [.str w,b]:=by
 unfold Jg at h;split at h
 ·exact ⟨_,_,rfl⟩
 ·exact absurd h Ak
theorem qaw {d:Aa} (h:isTup 2 2 d=false):Jg d=false:=by
 unfold Jg;split
 ·simp [isTup] at h
 ·rfl
structure Mv where
 kind:Str
 outer:Option Int
 params:Int
 names:Int
 slots:Int
 boxed:List Int
 taken:List Aa
 states:List Aa
def Vl:Option Int→Aa
 | none=> .none
 | some i=> .int i
def Mv.data (m:Mv):Aa:= .tuple [.str m.kind,Vl m.outer,.int m.params,.int m.names,.int m.slots,.tuple (m.boxed.map .int),.tuple m.taken,.tuple m.states]
def j8 (m:Mv):Aa→Bool
 | .tuple [.str w,x]=>if (w=="box")=true then Zv m.boxed x else (w=="taken")&&qy m.taken.length x
 | _=>false
def zP (m:Mv):Aa→Bool
 | .tuple [.str w,x]=>if (w=="slot")=true then qy m.names x&&!Zv m.boxed x else j8 m (.tuple [.str w,x])
 | _=>false
def isMid (m:Mv) (d:Aa):Bool:=qy m.slots d&&decide (m.names≤intOf d)
def jX (m:Mv):Aa→Bool
 | .tuple xs=>decide (xs.length≤4)&&xs.all (isMid m)
 | _=>false
def V6:Aa→Bool
 | .str x=>Tre.signs.any fun y=>y==x
 | _=>false
def Jm (ms:List Mv) (n:Nat) (d:Aa):Bool:=qy ms.length d&&((ms[(intOf d).toNat]?).map (·.outer)==some (some (n:Int)))
theorem ZE {m:Mv} {d:Aa} (h:Jg d=false):j8 m d=false:=by
 unfold j8;split
 ·exact absurd h (by simp [Jg])
 ·rfl
theorem Z9 {m:Mv} {d:Aa} (h:Jg d=false):zP m d=false:=by
 unfold zP;split
 ·exact absurd h (by simp [Jg])
 ·rfl
def qJ (ms:List Mv) (n:Nat) (m:Mv) (sh:Str) (d:Aa):Bool:=
 if sh="to"∨sh="of" then isMid m d
 else if sh="args" then jX m d
 else if sh="last" then Wp d||isMid m d
 else if sh="place" then zP m d
 else if sh="state" then qy m.states.length d
 else if sh="machine" then Jm ms n d
 else if sh="number" then Tre.Jt d
 else if sh="sign" then V6 d
 else if sh="word" then Tre.jm d
 else Tre.jm d&&!(Tre.txt d=="any")
section
variable {ms:List Mv} {n:Nat} {m:Mv} {d:Aa}
theorem qhy:qJ ms n m "to" d=isMid m d:=rfl
theorem qev:qJ ms n m "of" d=isMid m d:=rfl
theorem wE:qJ ms n m "args" d=jX m d:=rfl
theorem wD:qJ ms n m "last" d=(Wp d||isMid m d):=rfl
theorem Yq:qJ ms n m "state" d=qy m.states.length d:=rfl
theorem Xq:qJ ms n m "machine" d=Jm ms n d:=rfl
theorem XZ (h:isTup 0 4 d=false):jX m d=false:=by
 cases d with
 | tuple xs=>
  have h':decide (xs.length≤4)=false:=by simpa [isTup] using h
  rw [jX,h',Ba]
 | _=>rfl
theorem qcu {sh:Str} (h0:¬ (sh="to"∨sh="of")) (h1:sh≠"args") (h2:sh≠"last") (h3:sh≠"place") (h4:sh≠"state") (h5:sh≠"machine") (h6:sh≠"number") (h7:sh≠"sign") (h8:sh≠"word"):qJ ms n m sh d=(Tre.jm d&&!(Tre.txt d=="any")):=by
 unfold qJ;rw [if_neg h0,if_neg h1,if_neg h2,if_neg h3,if_neg h4,if_neg h5,if_neg h6,if_neg h7,if_neg h8]
end
def qQ (ms:List Mv) (n:Nat) (m:Mv) (shs:List Str) (ds:List Aa):Bool:=decide (ds.length=shs.length)&&(ds.zip shs).all fun p=>qJ ms n m p.2 p.1
abbrev rowHeads:List Str:=["number","read","write","two","make"]
abbrev endHeads:List Str:=["go","if","while","call","step","hand","back","fault"]
abbrev forms:List (Str×List Str):=[("number",["to","number"]),("read",["to","place"]),("write",["place","of"]),("two",["to","sign","of","of"]),("make",["to","machine"]),("go",["state"]),("if",["of","state","state"]),("while",["state"]),("call",["to","of","args","state"]),("step",["to","of","state","state"]),("hand",["of","state"]),("back",["last"]),("fault",["fault word","of"])]
abbrev catchShapes:List Str:=["word","place","state"]
def zw (heads:List Str) (ms:List Mv) (n:Nat) (m:Mv):Aa→Bool
 | .tuple (.str h::ds)=>(heads.any fun y=>y==h)&&qQ ms n m ((forms.lookup h).getD []) ds
 | _=>false
def JV (ms:List Mv) (n:Nat) (m:Mv) (d:Aa):Bool:=zw rowHeads ms n m d
def XR:Aa→Str
 | .tuple (.str h::_)=>h
 | _=>""
def jO (ms:List Mv) (n:Nat) (m:Mv) (d:Aa):Bool:=zw endHeads ms n m d&&(!(XR d=="hand")||!(m.kind=="fun"))
def j3 (ms:List Mv) (n:Nat) (m:Mv):Aa→Bool
 | .tuple ds=>qQ ms n m catchShapes ds
 | _=>false
def qY (ms:List Mv) (n:Nat) (m:Mv):Aa→Bool
 | .tuple [.tuple rows,e,.tuple catches]=>decide (rows.length≤1000)&&decide (catches.length≤20)&&rows.all (JV ms n m)&&jO ms n m e&&catches.all (j3 ms n m)
 | _=>false
theorem vj {heads:List Str} {ms:List Mv} {n:Nat} {m:Mv} {d:Aa} (h:zw heads ms n m d=true):∃ z ds,d= .tuple (.str z::ds):=by
 unfold zw at h;split at h
 ·exact ⟨_,_,rfl⟩
 ·exact absurd h Ak
theorem QQ {d:Aa} (h:isTup 3 3 d=true):∃ a b c,d= .tuple [a,b,c]:=by
 cases d with
 | tuple xs=>
  simp only [isTup,Al,A4] at h
  match xs,h with
  | [a,b,c],_=>exact ⟨a,b,c,rfl⟩
  | [],h=>simp at h
  | [_],h=>simp at h
  | [_,_],h=>simp at h
  | _::_::_::_::_,h=>simp at h
 | _=>exact absurd h Ak
section
variable {ms:List Mv} {n:Nat} {m:Mv} {d r e k:Aa}
theorem ZX (h:isTup 3 3 d=false):qY ms n m d=false:=by
 unfold qY;split
 ·simp [isTup] at h
 ·rfl
theorem Xn (h:isTup 0 1000 r=false):qY ms n m (.tuple [r,e,k])=false:=by
 unfold qY;split
 ·rename_i h';cases h';rw [isTup,Am (C6 _),Be] at h;rw [h];rfl
 ·rfl
theorem Xm (h:isTup 0 20 k=false):qY ms n m (.tuple [r,e,k])=false:=by
 unfold qY;split
 ·rename_i h';cases h';rw [isTup,Am (C6 _),Be] at h;rw [h];simp
 ·rfl
end
def JG (n:Nat) (k o:Aa):Bool:=match k with
 | .str x=>if n=0 then (x=="main")&&Wp o else ((x=="fun")||(x=="loop"))&&qy n o
 | _=>false
def jI (p nm s:Aa):Bool:=qy 1001 s&&qy (intOf s+1) nm&&qy ((if (4:Int)<intOf nm then 4 else intOf nm)+1) p
def JF:List Int→Bool
 | a::b::r=>decide (a<b)&&JF (b::r)
 | _=>true
def jH (n:Int):Aa→Bool
 | .tuple xs=>xs.all (qy n)&&JF (xs.map intOf)
 | _=>false
def zF (n:Nat):Aa→Bool
 | .tuple [k,o,p,nm,s,b,t,st]=>JG n k o&&jI p nm s&&jH (intOf nm) b&&qds t&&isTup 1 2000 st
 | _=>false
def za (ms:List Mv) (n:Nat) (m:Mv):Bool:=
 (if n=0 then m.taken.isEmpty else match m.outer with
  | some o=>(match ms[o.toNat]? with
   | some m'=>m.taken.all (j8 m')
   | none=>false)
  | none=>false)&&m.states.all (qY ms n m)
def Wz:Aa→List Aa
 | .tuple xs=>xs
 | _=>[]
def Wd:Aa→Option Int
 | .int i=>some i
 | _=>none
def jz:Aa→Mv
 | .tuple [k,o,p,nm,s,b,t,st]=>⟨Tre.txt k,Wd o,intOf p,intOf nm,intOf s,(Wz b).map intOf,Wz t,Wz st⟩
 | _=>⟨"",none,0,0,0,[],[],[]⟩
def J9:Nat→List Aa→Bool
 | _,[]=>true
 | n,d::r=>zF n d&&J9 (n+1) r
def vM (ms:List Mv):Nat→List Mv→Bool
 | _,[]=>true
 | n,m::r=>za ms n m&&vM ms (n+1) r
def jU:Aa→Bool
 | .tuple ds=>decide (1≤ds.length)&&decide (ds.length≤300)&&J9 0 ds&&vM (ds.map jz) 0 (ds.map jz)
 | _=>false
structure Okm (n:Nat) (m:Mv):Prop where
 kd:if n=0 then m.kind="main"∧m.outer=none else (m.kind="fun"∨m.kind="loop")∧∃ o:Int,m.outer=some o∧0≤o∧o<n
 s1:m.slots≤1000
 n0:0≤m.names
 n1:m.names≤m.slots
 p0:0≤m.params
 p1:m.params≤m.names
 p2:m.params≤4
 b0:∀ b∈m.boxed,0≤b∧b<m.names
 br:JF m.boxed=true
 st1:1≤m.states.length
 st2:m.states.length≤2000
theorem qR {n:Int} {d:Aa} (h:qy n d=true):∃ i,d= .int i∧0≤i∧i<n:=by
 cases d with
 | int i=>
  simp only [qy,Al,A4] at h;exact ⟨i,rfl,h⟩
 | _=>exact absurd h Ak
theorem V8:∀ {xs:List Aa} {n:Int},xs.all (qy n)=true→xs=(xs.map intOf).map .int
 | [],_,_=>rfl
 | x::xs,n,h=>by
  rw [C3,Al] at h;obtain ⟨i,rfl,_⟩:=qR h.1;rw [Bb,Bb,← V8 h.2];rfl
theorem JU {lo hi:Nat} {d:Aa} (h:isTup lo hi d=true):∃ xs,d= .tuple xs∧lo≤xs.length∧xs.length≤hi:=by
 cases d with
 | tuple xs=>
  simp only [isTup,Al,A4] at h;exact ⟨xs,rfl,h⟩
 | _=>exact absurd h Ak
theorem Y1 {n:Nat} {d:Aa} (h:zF n d=true):d=(jz d).data∧Okm n (jz d):=by
 unfold zF at h;split at h
 ·rename_i k o p nm s b t st;simp only [Al] at h;obtain ⟨⟨⟨⟨hp,hc⟩,hb⟩,ht⟩,hs⟩:=h;simp only [jI,Al] at hc;obtain ⟨⟨c1,c2⟩,c3⟩:=hc;obtain ⟨s,rfl,s0,s1⟩:=qR c1;obtain ⟨nm,rfl,n0,n1⟩:=qR c2;obtain ⟨p,rfl,p0,p1⟩:=qR c3;obtain ⟨st,rfl,t1,t2⟩:=JU hs;cases t with
  | tuple t=>
   cases b with
   | tuple b=>
    simp only [jH,Al,intOf] at hb;cases k with
    | str k=>
     have eb:=V8 hb.1;simp only [intOf] at n1 p1;have p2:p≤nm∧p≤4:=by
      have p1':p<(if (4:Int)<nm then 4 else nm)+1:=p1
      by_cases h4:(4:Int)<nm
      ·rw [if_pos h4] at p1';omega
      ·rw [if_neg h4] at p1';omega
     have hbx:∀ x∈b.map intOf,0≤x∧x<nm:=fun x hx=>by
      obtain ⟨y,hy,rfl⟩:=A3.mp hx;obtain ⟨i,rfl,h⟩:=qR (A8.mp hb.1 y hy);exact h
     have kd:(if n=0 then k="main"∧Wd o=none else (k="fun"∨k="loop")∧∃ i:Int,Wd o=some i∧0≤i∧i<n)∧o=Vl (Wd o):=by
      simp only [JG] at hp
      by_cases hn:n=0
      ·rw [if_pos hn,Al,Bd] at hp;rw [if_pos hn];cases o with
       | none=>exact ⟨⟨hp.1,rfl⟩,rfl⟩
       | _=>exact absurd hp.2 Ak
      ·rw [if_neg hn,Al,Cc,Bd,Bd] at hp;rw [if_neg hn];obtain ⟨i,rfl,h⟩:=qR hp.2;exact ⟨⟨hp.1,i,rfl,h⟩,rfl⟩
     refine ⟨?_,⟨kd.1,show s≤1000 from ⋯,n0,show nm≤s from ⋯,p0,p2.1,p2.2,hbx,hb.2,t1,t2⟩⟩;show PyData.tuple [.str k,o,.int p,.int nm,.int s,.tuple b,.tuple t,.tuple st]= .tuple [.str k,Vl (Wd o),.int p,.int nm,.int s,.tuple ((b.map intOf).map .int),.tuple t,.tuple st];rw [← kd.2,← eb]
    | _=>exact absurd hp Ak
   | _=>exact absurd hb Ak
  | _=>exact absurd ht Ak
 ·exact absurd h Ak
theorem qbt {d:Aa} (h:isTup 8 8 d=true):∃ a b c e f g i j,d= .tuple [a,b,c,e,f,g,i,j]:=by
 obtain ⟨xs,rfl,h1,h2⟩:=JU h
 match xs,h1,h2 with
 | [a,b,c,e,f,g,i,j],_,_=>exact ⟨a,b,c,e,f,g,i,j,rfl⟩
 | _::_::_::_::_::_::_::_::_::_,_,h=>simp only [Bj] at h;omega
 | [],h,_=>exact absurd h O0
 | [_],h,_=>exact absurd h (by simp)
 | [_,_],h,_=>exact absurd h (by simp)
 | [_,_,_],h,_=>exact absurd h (by simp)
 | [_,_,_,_],h,_=>exact absurd h (by simp)
 | [_,_,_,_,_],h,_=>exact absurd h (by simp)
 | [_,_,_,_,_,_],h,_=>exact absurd h (by simp)
 | [_,_,_,_,_,_,_],h,_=>exact absurd h (by simp)
theorem Qa {n:Nat} {d:Aa} (h:isTup 8 8 d=false):zF n d=false:=by
 unfold zF;split
 ·exact absurd h (by simp [isTup])
 ·rfl
theorem qca {d:Aa} (h:isTup 1 300 d=false):jU d=false:=by
 cases d with
 | tuple xs=>
  rw [isTup] at h;rw [jU,h];rfl
 | _=>rfl
theorem VX:∀ {n:Nat} {ds:List Aa},J9 n ds=true→ds=(ds.map jz).map Mv.data∧∀ i m,(ds.map jz)[i]?=some m→Okm (n+i) m
 | _,[],_=>⟨rfl,fun i m h=>by simp at h⟩
 | n,d::r,h=>by
  rw [J9,Al] at h;obtain ⟨e,ok⟩:=Y1 h.1;obtain ⟨e2,ok2⟩:=VX h.2;refine ⟨?_,fun i m hm=>?_⟩
  ·rw [Bb,Bb,← e,← e2]
  ·cases i with
   | zero=>
    cases hm;exact ok
   | succ i=>
    have:=ok2 i m (by simpa using hm)
    rw [show n+(i+1)=n+1+i from ⋯];exact this
end Cod
namespace Cod
open PySem PyProof.Rows
def bitsL (l:List Nat):Nat:=l.foldl (fun b s=>b||| 2 ^ s) 0
def dif (a b:Nat):Nat:=a&&& (a ^^^ b)
theorem Zl (a b:Nat):Builtin.bitOr (a:Int) (b:Int)=((a||| b:Nat):Int):=by
 have h:=nat_or_add_and a b;rw [bitOr_and,bitAnd_pp ⋯ ⋯,Bf,Bf];omega
theorem qci (a b:Nat):Builtin.bitAnd (a:Int) (b:Int)=((a&&& b:Nat):Int):=by
 rw [bitAnd_pp ⋯ ⋯,Bf,Bf]
theorem vp (a b i:Nat):(dif a b).testBit i=(a.testBit i&&!b.testBit i):=by
 unfold dif;rw [Dd,Nat.testBit_xor];cases a.testBit i <;> cases b.testBit i <;> rfl
theorem qby (a b:Nat):Builtin.bitAnd (a:Int) (Builtin.bitNot (b:Int))=((dif a b:Nat):Int):=by
 rw [bitAnd_not,qci];have e1:dif a b||| (a&&& b)=a:=Nat.eq_of_testBit_eq fun i=>by
  rw [Dz,vp,Dd];cases a.testBit i <;> cases b.testBit i <;> rfl
 have e2:dif a b&&& (a&&& b)=0:=Nat.eq_of_testBit_eq fun i=>by
  rw [Dd,vp,Dd,B4];cases a.testBit i <;> cases b.testBit i <;> rfl
 have h:=nat_or_add_and (dif a b) (a&&& b);rw [e1,e2] at h;omega
def Sub (a b:Nat):Prop:=∀ s,a.testBit s=true→b.testBit s=true
theorem Sub.refl (a:Nat):Sub a a:=fun _ h=>h
theorem Sub.trans {a b c:Nat} (h:Sub a b) (g:Sub b c):Sub a c:=fun s x=>g s (h s x)
theorem qcp (a b:Nat):Sub (a&&& b) a:=fun s h=>by
 rw [Dd,Al] at h;exact h.1
def JS (d:Aa):Nat:=(intOf d).toNat
def v8 (sh:Str) (d:Aa):List Nat:=if sh="of" then [JS d] else if sh="last" then (if Wp d=true then [] else [JS d]) else if sh="args" then (Wz d).map JS else []
def rdZ (zs:List (Aa×Str)):List Nat:=zs.flatMap fun p=>v8 p.2 p.1
def yD (sh:Str) (zs:List (Aa×Str)):List Nat:=(zs.filter fun p=>p.2==sh).map fun p=>JS p.1
def tl:Aa→List Aa
 | .tuple (_::r)=>r
 | _=>[]
def zOf (d:Aa):List (Aa×Str):=(tl d).zip ((forms.lookup (XR d)).getD [])
def zY (d:Aa):List Nat:=rdZ (zOf d)
def jP (d:Aa):List Nat:=yD "to" (zOf d)
def JJ (d:Aa):List Nat:=yD "state" (zOf d)
structure Few (n:Nat) (d:Aa):Prop where
 form:∃ z ds fs,d= .tuple (.str z::ds)∧forms.lookup z=some fs∧ds.length=fs.length∧fs.length≤4
 mid:∀ p∈zOf d,(p.2="of"∨p.2="to"∨(p.2="last"∧Wp p.1=false))→∃ j:Nat,p.1= .int (j:Nat)∧j<1000
 args:∀ p∈zOf d,p.2="args"→∃ l:List Nat,p.1= .tuple (l.map fun j=> .int (j:Nat))∧l.length≤4∧∀ j∈l,j<1000
 sts:∀ p∈zOf d,p.2="state"→∃ j:Nat,p.1= .int (j:Nat)∧j<n
theorem Qp:∀ p∈forms,p.2.length≤4:=O0
theorem XL {α:Type} {l:List (Str×α)} {z:Str} {x:α} (h:l.lookup z=some x):(z,x)∈l:=by
 induction l with
 | nil=>cases h
 | cons p l ih=>
  rw [By] at h
  by_cases e:(z==p.1)=true
  ·rw [e] at h;cases h;rw [Bd.mp e];exact Bi
  ·rw [Ci.mpr e] at h;exact Bg _ (ih h)
theorem wG {m:Mv} {d:Aa} (ok:m.slots≤1000) (h:isMid m d=true):∃ j:Nat,d= .int (j:Nat)∧j<1000:=by
 rw [isMid,Al] at h;obtain ⟨i,rfl,h0,h1⟩:=qR h.1;exact ⟨i.toNat,by rw [Cw h0],⋯⟩
theorem YY {m:Mv} (ok:m.slots≤1000):∀ {ds:List Aa},ds.all (isMid m)=true→∃ l:List Nat,ds=l.map (fun j:Nat=> .int (j:Int))∧∀ j∈l,j<1000
 | [],_=>⟨[],rfl,fun _ h=>nomatch h⟩
 | d::ds,h=>by
  rw [C3,Al] at h;obtain ⟨j,rfl,hj⟩:=wG ok h.1;obtain ⟨l,rfl,hl⟩:=YY ok h.2;exact ⟨j::l,rfl,fun x hx=>by
   rcases Av.mp hx with rfl | hx
   ·exact hj
   ·exact hl x hx⟩
theorem qbn {heads:List Str} {ms:List Mv} {n:Nat} {m:Mv} {d:Aa} (hh:∀ h,(heads.any fun y=>y==h)=true→(forms.lookup h).isSome=true) (ok:m.slots≤1000) (h:zw heads ms n m d=true):Few m.states.length d:=by
 obtain ⟨z,ds,rfl⟩:=vj h;simp only [zw,Al] at h;obtain ⟨fs,hf⟩:=Cr.mp (hh z h.1);have h2:=h.2;rw [hf,Eb,qQ,Al,A4] at h2;have ez:zOf (.tuple (.str z::ds))=ds.zip fs:=by
  unfold zOf;show ds.zip ((forms.lookup z).getD [])=_;rw [hf];rfl
 have hs:∀ p∈zOf (.tuple (.str z::ds)),qJ ms n m p.2 p.1=true:=fun p hp=>by
  rw [ez] at hp;exact A8.mp h2.2 p hp
 refine ⟨⟨z,ds,fs,rfl,hf,h2.1,Qp _ (XL hf)⟩,fun p hp e=>?_,fun p hp e=>?_,fun p hp e=>?_⟩
 ·have q:=hs p hp;rcases e with e | e | ⟨e,e2⟩
  ·rw [e,qev] at q;exact wG ok q
  ·rw [e,qhy] at q;exact wG ok q
  ·rw [e,wD,e2,Dg] at q;exact wG ok q
 ·have q:=hs p hp;rw [e,wE] at q;obtain ⟨p1,p2⟩:=p;cases p1 with
  | tuple xs=>
   simp only [jX,Al,A4] at q;obtain ⟨l,rfl,hl⟩:=YY ok q.2;exact ⟨l,rfl,by simpa using q.1,hl⟩
  | _=>exact absurd q Ak
 ·have q:=hs p hp;rw [e,Yq] at q;obtain ⟨i,hi,h0,h1⟩:=qR q;exact ⟨i.toNat,by rw [hi,Cw h0],⋯⟩
theorem Few.rd {n:Nat} {d:Aa} (h:Few n d):∀ j∈zY d,j<1000:=fun j hj=>by
 obtain ⟨p,hp,hj⟩:=List.mem_flatMap.mp hj;unfold v8 at hj;have one:∀ {j:Nat},(∃ i:Nat,p.1= .int (i:Nat)∧i<1000)→j∈[JS p.1]→j<1000:=fun ⟨i,e,hi⟩ hm=>by
  rw [Ay.mp hm,e];show (i:Int).toNat<1000;omega
 split at hj
 ·rename_i e;exact one (h.mid p hp (.inl e)) hj
 ·split at hj
  ·rename_i e;split at hj
   ·cases hj
   ·rename_i e2;exact one (h.mid p hp (.inr (.inr ⟨e,Ci.mpr e2⟩))) hj
  ·split at hj
   ·rename_i e;obtain ⟨l,el,_,hl⟩:=h.args p hp e;rw [el] at hj;obtain ⟨x,hx,rfl⟩:=A3.mp hj;obtain ⟨i,hi,rfl⟩:=A3.mp hx;show (i:Int).toNat<1000;have:=hl i hi;omega
   ·cases hj
theorem Few.wr {n:Nat} {d:Aa} (h:Few n d):∀ j∈jP d,j<1000:=fun j hj=>by
 obtain ⟨p,hp,rfl⟩:=A3.mp hj;obtain ⟨h1,h2⟩:=Dp.mp hp;obtain ⟨i,e,hi⟩:=h.mid p h1 (.inr (.inl (Bd.mp h2)));rw [e];show (i:Int).toNat<1000;omega
theorem Few.st {n:Nat} {d:Aa} (h:Few n d):∀ j∈JJ d,j<n:=fun j hj=>by
 obtain ⟨p,hp,rfl⟩:=A3.mp hj;obtain ⟨h1,h2⟩:=Dp.mp hp;obtain ⟨i,e,hi⟩:=h.sts p h1 (Bd.mp h2);rw [e];show (i:Int).toNat<n;omega
theorem Few.few {n:Nat} {d:Aa} (h:Few n d):(JJ d).length≤4:=by
 obtain ⟨z,ds,fs,rfl,hf,hl,h4⟩:=h.form;unfold JJ yD;rw [Aj];refine As (Db _ _) ?_;unfold zOf;rw [Cg];show min ds.length _≤4;omega
def zG (d:Aa) (wr:Nat):List (Nat×Nat):=(JJ d).mapIdx fun i t=>(t,if i=0 then wr||| bitsL (jP d) else wr)
def qE (p:Nat×Nat) (row:Aa):Nat×Nat:=(p.1||| dif (bitsL (zY row)) p.2,p.2||| bitsL (jP row))
def qb4 (c:Aa):Nat:=JS ((Wz c).getD 2 .none)
def ctW (cts:List Aa):List (Nat×Nat):=cts.map fun c=>(qb4 c,0)
def qW:Aa→Nat×List (Nat×Nat)
 | .tuple [.tuple rows,e,.tuple cts]=>((rows.foldl qE (0,0)).1||| dif (bitsL (zY e)) (rows.foldl qE (0,0)).2,ctW cts++zG e (rows.foldl qE (0,0)).2)
 | _=>(0,[])
structure Sok (n:Nat) (d:Aa):Prop where
 ex:∃ rows e cts,d= .tuple [.tuple rows,e,.tuple cts]∧rows.length≤1000∧cts.length≤20∧(∀ r∈rows,Few n r)∧Few n e∧∀ c∈cts,∃ a b,∃ j:Nat,c= .tuple [a,b,.int (j:Nat)]∧j<n
abbrev Dc:=List (Nat×Nat)
def zI (l:Dc) (k:Nat):Option Nat:=(l.find? fun p=>p.1==k).map (·.2)
def putL (l:Dc) (k b:Nat):Dc:=if (l.any fun p=>p.1==k)=true then l.map (fun p=>if p.1=k then (p.1,b) else p) else l++[(k,b)]
theorem Wt {l:Dc} {k:Nat}:zI l k=none↔(l.any fun p=>p.1==k)=false:=by
 induction l with
 | nil=>exact ⟨fun _=>rfl,fun _=>rfl⟩
 | cons p l ih=>
  unfold zI at ih ⊢;rw [B2,Ct]
  by_cases h:(p.1==k)=true
  ·rw [h];simp
  ·rw [Ci.mpr h];simpa using ih
theorem qdw {l:Dc} {k b j:Nat}:zI (l.map fun p=>if p.1=k then (p.1,b) else p) j=if j=k∧(l.any fun p=>p.1==k)=true then some b else zI l j:=by
 induction l with
 | nil=>simp [zI]
 | cons p l ih=>
  unfold zI at ih ⊢;rw [Bb,B2,B2,Ct]
  by_cases h:p.1=k
  ·rw [if_pos h]
   by_cases hj:j=k
   ·subst hj;subst h;simp
   ·have e:(p.1==j)=false:=Bv.mpr fun z=>hj (z▸h);simp only [e,ih,hj,false_and,if_false]
  ·rw [if_neg h];have e:(p.1==k)=false:=Bv.mpr h
   by_cases hj:(p.1==j)=true
   ·have:j≠k:=fun z=>h (by rw [← z];exact Bd.mp hj)
    simp [hj,this]
   ·simp only [Ci.mpr hj,e,Dg,ih]
theorem ZA {l:Dc} {k b j:Nat}:zI (putL l k b) j=if j=k then some b else zI l j:=by
 unfold putL
 by_cases h:(l.any fun p=>p.1==k)=true
 ·rw [if_pos h,qdw,h];simp
 ·rw [if_neg h];have hn:=Wt.mpr (Ci.mpr h);unfold zI at hn ⊢;rw [List.find?_append]
  by_cases hj:j=k
  ·subst hj;rw [Option.map_eq_none_iff.mp hn];simp
  ·rw [if_neg hj];have e:(k==j)=false:=Bv.mpr fun z=>hj z.symm;cases hf:l.find? fun p=>p.1==j with
   | none=>simp [e]
   | some p=>simp
theorem qbc {l:Dc} {k b:Nat}:(putL l k b).map (·.1)=if (l.any fun p=>p.1==k)=true then l.map (·.1) else l.map (·.1)++[k]:=by
 unfold putL
 by_cases h:(l.any fun p=>p.1==k)=true
 ·rw [if_pos h,if_pos h,Bm];refine C4 fun p _=>?_;show (if p.1=k then (p.1,b) else p).1=p.1
  split <;> rfl
 ·rw [if_neg h,if_neg h,A6];rfl
theorem qei {l:Dc} {k:Nat}:(l.any fun p=>p.1==k)=true↔k∈l.map (·.1):=by
 rw [Cd,A3];exact ⟨fun ⟨p,h,e⟩=>⟨p,h,Bd.mp e⟩,fun ⟨p,h,e⟩=>⟨p,h,Bd.mpr e⟩⟩
theorem Qg {l:Dc} {k b:Nat} (h:(l.map (·.1)).Nodup):((putL l k b).map (·.1)).Nodup:=by
 rw [qbc];split
 ·exact h
 ·rename_i hk;rw [qei] at hk;exact En.mpr ⟨h,by simp,fun a ha b hb=>by
   rw [Ay.mp hb];exact fun z=>hk (z▸ha)⟩
theorem ZB {l:Dc} {k b:Nat} (h:zI l k=some b):(k,b)∈l:=by
 obtain ⟨p,hp,e⟩:=C7.mp h;have h1:=List.find?_some hp;have h2:=List.mem_of_find?_eq_some hp;have h3:p.1=k:=Bd.mp h1;rw [← h3,← e];exact h2
theorem wH {l:Dc} {k b:Nat} (n:(l.map (·.1)).Nodup) (h:(k,b)∈l):zI l k=some b:=by
 induction l with
 | nil=>cases h
 | cons p l ih=>
  rw [Bb,Ck] at n;unfold zI at ih ⊢;rw [B2];rcases Av.mp h with rfl | h
  ·simp
  ·have e:(p.1==k)=false:=Bv.mpr fun z=>n.1 (z▸A3.mpr ⟨_,h,rfl⟩);rw [e];exact ih n.2 h
def ZW (l:Dc):Nat:=(l.map (·.2)).sum
def WT (N W:Nat) (l:Dc):Nat:=(N - l.length)*2 ^ W+ZW l
theorem X6 {k b c:Nat} (hb:b<c):∀ {l:Dc},(l.map (·.1)).Nodup→zI l k=some c→ZW (l.map fun p=>if p.1=k then (p.1,b) else p)<ZW l
 | [],_,h=>by cases h
 | p::l,n,h=>by
  rw [Bb,Ck] at n;unfold ZW;rw [Bb,Bb,Bb,List.sum_cons,List.sum_cons];unfold zI at h;rw [B2] at h
  by_cases hk:p.1=k
  ·have e:(p.1==k)=true:=Bd.mpr hk;rw [e] at h;have hc:p.2=c:=Bh h;have same:(l.map fun p=>if p.1=k then (p.1,b) else p)=l:=by
    refine (C4 fun q hq=>?_).trans (List.map_id l);have:q.1≠k:=fun z=>n.1 (by rw [hk,← z];exact A3.mpr ⟨q,hq,rfl⟩)
    rw [if_neg this];rfl
   rw [if_pos hk,same];show b+_<p.2+_;omega
  ·have e:(p.1==k)=false:=Bv.mpr hk;rw [e] at h;have:=X6 hb n.2 h;rw [if_neg hk];unfold ZW at this;omega
abbrev Psg:=List (Nat×List (Nat×Nat))
inductive NotWr (ps:Psg) (s:Nat):Nat→Prop
 | zero:NotWr ps s 0
 | step {k:Nat} {p:Nat×List (Nat×Nat)} {w:Nat×Nat}:NotWr ps s k→ps[k]?=some p→w∈p.2→w.2.testBit s=false→NotWr ps s w.1
def Rw (ps:Psg):Prop:=∀ k s p,NotWr ps s k→ps[k]?=some p→p.1.testBit s=false
structure Pok (ps:Psg) (W:Nat):Prop where
 ne:0<ps.length
 w:∀ p∈ps,∀ w∈p.2,w.1<ps.length∧w.2<2 ^ W
structure Aw (ps:Psg) (W:Nat) (l:Dc):Prop where
 nd:(l.map (·.1)).Nodup
 bd:∀ k b,zI l k=some b→k<ps.length∧b<2 ^ W
 z:zI l 0=some 0
 ex:∀ k b s,zI l k=some b→b.testBit s=false→NotWr ps s k
theorem Aw.len {ps:Psg} {W:Nat} {l:Dc} (h:Aw ps W l):l.length≤ps.length:=by
 have:=Grf.nodup_len ps.length (l.map (·.1)) h.nd fun x hx=>by
  obtain ⟨p,hp,rfl⟩:=A3.mp hx;exact (h.bd p.1 p.2 (wH h.nd hp)).1
 rwa [Aj] at this
def vI (l:Dc) (t x:Nat):Nat:=match zI l t with
 | none=>x
 | some c=>x&&& c
def chg (l:Dc) (t x:Nat):Bool:=match zI l t with
 | none=>true
 | some c=>(x&&& c) !=c
def stp (l:Dc) (t x:Nat):Dc:=if chg l t x=true then putL l t (vI l t x) else l
section
variable {ps:Psg} {W:Nat} {l:Dc} {k t b br x:Nat} {p:Nat×List (Nat×Nat)}
theorem Zq:Sub (vI l t x) x:=by
 unfold vI;split
 ·exact Sub.refl _
 ·exact qcp _ _
theorem vi:zI (stp l t x) t=some (vI l t x):=by
 unfold stp;split
 ·rw [ZA,if_pos rfl]
 ·rename_i h;unfold chg vI at*;cases hg:zI l t with
  | none=>rw [hg] at h;exact absurd rfl h
  | some c=>
   rw [hg] at h;have:(x&&& c)=c:=by simpa using h
   show some c=some (x&&& c);rw [this]
theorem jV {j:Nat} (h:j≠t):zI (stp l t x) j=zI l j:=by
 unfold stp;split
 ·rw [ZA,if_neg h]
 ·rfl
theorem Yn {j c:Nat} (h:zI l j=some c):∃ c',zI (stp l t x) j=some c'∧Sub c' c:=by
 by_cases hj:j=t
 ·subst hj;refine ⟨_,vi,?_⟩;unfold vI;rw [h];intro s hs;have:(x&&& c).testBit s=true:=hs;rw [Dd,Al] at this;exact this.2
 ·exact ⟨c,by rw [jV hj];exact h,Sub.refl _⟩
theorem Aw.stp (pk:Pok ps W) (h:Aw ps W l) (hk:zI l k=some b) (hp:ps[k]?=some p) (hw:(t,br)∈p.2):Aw ps W (stp l t (b||| br)):=by
 obtain ⟨t1,t2⟩:=pk.w p (A0 hp) _ hw;have hb:=(h.bd k b hk).2;have hx:b||| br<2 ^ W:=Dx hb t2
 refine ⟨?_,fun j c hj=>?_,?_,fun j c s hj hs=>?_⟩
 ·unfold Cod.stp;split
  ·exact Qg h.nd
  ·exact h.nd
 ·by_cases e:j=t
  ·subst e;rw [vi] at hj;refine ⟨t1,?_⟩;rw [← Bh hj];unfold vI;split
   ·exact hx
   ·exact Nat.and_lt_two_pow _ (h.bd _ _ (by assumption)).2
  ·rw [jV e] at hj;exact h.bd j c hj
 ·by_cases e:0=t
  ·subst e;rw [vi];unfold vI;rw [h.z];show some ((b||| br)&&& 0)=some 0
   rw [Nat.and_zero]
  ·rw [jV e];exact h.z
 ·by_cases e:j=t
  ·subst e;rw [vi] at hj;rw [← Bh hj] at hs;have way:∀ s,(b||| br).testBit s=false→NotWr ps s j:=fun s hs=>by
    rw [Dz,Bool.or_eq_false_iff] at hs;exact .step (h.ex k b s hk hs.1) hp hw hs.2
   unfold vI at hs;cases hg:zI l j with
   | none=>
    rw [hg] at hs;exact way s hs
   | some c=>
    rw [hg] at hs;have hs':((b||| br)&&& c).testBit s=false:=hs
    rw [Dd,Bool.and_eq_false_iff] at hs';rcases hs' with z | z
    ·exact way s z
    ·exact h.ex j c s hg z
  ·rw [jV e] at hj;exact h.ex j c s hj hs
theorem qbb (pk:Pok ps W) (h:Aw ps W l) (hk:zI l k=some b) (hp:ps[k]?=some p) (hw:(t,br)∈p.2) (hc:chg l t (b||| br)=true):WT ps.length W (stp l t (b||| br))<WT ps.length W l:=by
 obtain ⟨t1,t2⟩:=pk.w p (A0 hp) _ hw;have hx:b||| br<2 ^ W:=Dx (h.bd k b hk).2 t2
 have hl:=(Aw.stp pk h hk hp hw).len;unfold stp at hl ⊢;rw [if_pos hc] at hl ⊢;unfold chg at hc;unfold vI at hl ⊢;cases hg:zI l t with
 | none=>
  rw [hg] at hl;have ha:=Wt.mp hg;simp only at hl ⊢;unfold putL at hl ⊢;rw [ha] at hl ⊢;rw [if_neg Ak] at hl ⊢;rw [Ax] at hl;unfold WT ZW;rw [Ax,A6,List.sum_append];have e:ps.length - l.length=(ps.length - (l.length+[(t,b||| br)].length))+1:=by
   have:[(t,b||| br)].length=1:=rfl
   omega
  rw [e,Nat.add_mul,Nat.one_mul];show _+(_+((b||| br)+0))<_
  omega
 | some c=>
  rw [hg] at hc;have hne:((b||| br)&&& c)≠c:=by simpa using hc
  have hlt:((b||| br)&&& c)<c:=Nat.lt_of_le_of_ne Nat.and_le_right hne
  have ha:(l.any fun p=>p.1==t)=true:=by
   cases q:l.any fun p=>p.1==t with
   | true=>rfl
   | false=>rw [Wt.mpr q] at hg;cases hg
  simp only;unfold putL;rw [if_pos ha];unfold WT;rw [Aj];have:=X6 hlt h.nd hg;omega
end
def Clw (l:Dc) (b:Nat) (ws:List (Nat×Nat)):Prop:=∀ w∈ws,∃ c,zI l w.1=some c∧Sub c (b||| w.2)
def Clo (ps:Psg) (l:Dc) (k:Nat):Prop:=∀ p b,ps[k]?=some p→zI l k=some b→Clw l b p.2
def Xg (ps:Psg) (l:Dc) (todo beh:List Nat):Prop:=∀ k b,zI l k=some b→k∈todo∨k∈beh∨Clo ps l k
def WI (ps:Psg) (l:Dc) (todo beh:List Nat) (n j:Nat):Prop:=∀ k b,zI l k=some b→k∈todo∨k∈beh∨Clo ps l k∨(k=n∧∀ p,ps[k]?=some p→Clw l b (p.2.take j))
section
variable {ps:Psg} {W:Nat} {l:Dc} {t x b:Nat} {todo beh:List Nat}
theorem Clw.stp {ws:List (Nat×Nat)} (h:Clw l b ws):Clw (stp l t x) b ws:=fun w hw=>by
 obtain ⟨c,hc,s⟩:=h w hw;obtain ⟨c',h1,h2⟩:=Yn (t:=t) (x:=x) hc;exact ⟨c',h1,h2.trans s⟩
theorem WI.next {n j br:Nat} {p:Nat×List (Nat×Nat)} (h:WI ps l todo beh n j) (hn:zI l n=some b) (hp:ps[n]?=some p) (hw:p.2[j]?=some (t,br)):
  WI ps (stp l t (b||| br)) todo (if chg l t (b||| br)=true then (if t∈beh then beh else beh++[t]) else beh) n (j+1):=by
 have inb:∀ k,k∈beh→k∈(if chg l t (b||| br)=true then (if t∈beh then beh else beh++[t]) else beh):=fun k hk=>by
  split
  ·split
   ·exact hk
   ·exact Ea _ hk
  ·exact hk
 intro k c hk
 by_cases hc:chg l t (b||| br)=true
 ·by_cases e:k=t
  ·refine .inr (.inl ?_);rw [if_pos hc,e];split
   ·assumption
   ·exact Bs _ (Ay.mpr rfl)
  ·rw [jV e] at hk;rcases h k c hk with z | z | z | ⟨z1,z2⟩
   ·exact .inl z
   ·exact .inr (.inl (inb k z))
   ·refine .inr (.inr (.inl fun p' b' hp' hb'=>?_));rw [jV e] at hb';exact (z p' b' hp' hb').stp
   ·subst z1;refine .inr (.inr (.inr ⟨rfl,fun p' hp'=>?_⟩));rw [hp] at hp';cases hp';rw [hn] at hk;cases hk;rw [Bl,hw];intro w hm;rcases Az.mp hm with hm | hm
    ·exact (z2 p hp).stp w hm
    ·cases Ay.mp hm;exact ⟨_,vi,Zq⟩
 ·have es:Cod.stp l t (b||| br)=l:=by unfold Cod.stp;rw [if_neg hc]
  rw [es] at hk ⊢;rcases h k c hk with z | z | z | ⟨z1,z2⟩
  ·exact .inl z
  ·exact .inr (.inl (inb k z))
  ·exact .inr (.inr (.inl z))
  ·subst z1;refine .inr (.inr (.inr ⟨rfl,fun p' hp'=>?_⟩));rw [hp] at hp';cases hp';rw [hn] at hk;cases hk;rw [Bl,hw];intro w hm;rcases Az.mp hm with hm | hm
   ·exact z2 p hp w hm
   ·cases Ay.mp hm;have:=vi (l:=l) (t:=t) (x:=b||| br)
    rw [es] at this;exact ⟨_,this,Zq⟩
theorem WI.of {n:Nat} (h:Xg ps l (n::todo) beh):WI ps l todo beh n 0:=fun k b hk=>by
 rcases h k b hk with z | z | z
 ·rcases Av.mp z with z | z
  ·exact .inr (.inr (.inr ⟨z,fun p _ w hw=>by cases hw⟩))
  ·exact .inl z
 ·exact .inr (.inl z)
 ·exact .inr (.inr (.inl z))
theorem WI.all {n:Nat} {p:Nat×List (Nat×Nat)} (hp:ps[n]?=some p) (h:WI ps l todo beh n p.2.length):Xg ps l todo beh:=fun k b hk=>by
 rcases h k b hk with z | z | z | ⟨z1,z2⟩
 ·exact .inl z
 ·exact .inr (.inl z)
 ·exact .inr (.inr z)
 ·subst z1;refine .inr (.inr fun p' b' hp' hb'=>?_);rw [hk] at hb';cases hb';have:=z2 p' hp';rw [hp] at hp';cases hp'
  rwa [Bp] at this
theorem qg8 (pk:Pok ps W) (h:Aw ps W l) (a:Xg ps l [] []) (s k:Nat):NotWr ps s k↔∃ b,zI l k=some b∧b.testBit s=false:=by
 constructor
 ·intro q
  induction q with
  | zero=>exact ⟨0,h.z,B4 s⟩
  | @step k p w _ hp hw hs ih=>
   obtain ⟨b,hb,hbs⟩:=ih;rcases a k b hb with z | z | z
   ·cases z
   ·cases z
   ·obtain ⟨c,hc,sb⟩:=z p b hp hb w hw;refine ⟨c,hc,?_⟩;cases e:c.testBit s with
    | false=>rfl
    | true=>
     have:=sb s e;rw [Dz,hbs,hs] at this;cases this
 ·rintro ⟨b,hb,hs⟩;exact h.ex k b s hb hs
theorem ZN (pk:Pok ps W):Aw ps W [(0,0)]∧Xg ps [(0,0)] [0] []:=by
 have key:∀ k b,zI [(0,0)] k=some b→k=0∧b=0:=fun k b h=>by
  have:=ZB h;cases Ay.mp this;exact ⟨rfl,rfl⟩
 refine ⟨⟨by simp,fun k b h=>?_,rfl,fun k b s h _=>?_⟩,fun k b h=>?_⟩
 ·obtain ⟨rfl,rfl⟩:=key k b h;exact ⟨pk.ne,Nat.two_pow_pos W⟩
 ·obtain ⟨rfl,rfl⟩:=key k b h;exact .zero
 ·obtain ⟨rfl,rfl⟩:=key k b h;exact .inl (Ay.mpr rfl)
theorem qfp (pk:Pok ps W) (h:Aw ps W l) (a:Xg ps l [] []):Rw ps↔∀ q∈l,∀ p,ps[q.1]?=some p→dif p.1 q.2=0:=by
 constructor
 ·intro r q hq p hp;refine Nat.eq_of_testBit_eq fun s=>?_;rw [vp,B4];cases e:q.2.testBit s with
  | true=>rw [Bool.not_true,Bool.and_false]
  | false=>rw [r q.1 s p (h.ex _ _ _ (wH h.nd hq) e) hp,Ba]
 ·intro z k s p hn hp;obtain ⟨b,hb,hs⟩:=(qg8 pk h a s k).mp hn;have:=congrArg (fun n=>n.testBit s) (z (k,b) (ZB hb) p hp);simp only [vp,B4,hs,Bool.not_false,Et] at this;exact this
end
theorem ZM {W:Nat}:∀ {l:List Nat},(∀ j∈l,j<W)→∀ b,b<2 ^ W→l.foldl (fun b s=>b||| 2 ^ s) b<2 ^ W
 | [],_,b,hb=>hb
 | j::l,h,b,hb=>ZM (fun x hx=>h x (Bg _ hx)) _ (Dx hb (Nat.pow_lt_pow_right O0 (h j Bi)))
theorem Xe {W:Nat} {l:List Nat} (h:∀ j∈l,j<W):bitsL l<2 ^ W:=ZM h 0 (Nat.two_pow_pos W)
theorem Zc {n:Nat}:∀ {rows:List Aa},(∀ r∈rows,Few n r)→∀ q:Nat×Nat,q.2<2 ^ 1000→(rows.foldl qE q).2<2 ^ 1000
 | [],_,_,h=>h
 | r::rows,hr,q,h=>Zc (fun x hx=>hr x (Bg _ hx)) _ (Dx h (Xe (hr r Bi).wr))
theorem qao {sts:List Aa} (h1:1≤sts.length) (h:∀ d∈sts,Sok sts.length d):Pok (sts.map qW) 1000:=by
 refine ⟨by rw [Aj];omega,fun p hp w hw=>?_⟩
 obtain ⟨d,hd,rfl⟩:=A3.mp hp;rw [Aj];obtain ⟨rows,e,cts,rfl,_,_,fr,fe,fc⟩:=(h d hd).ex;have hz:(0:Nat)<2 ^ 1000:=Nat.two_pow_pos 1000;have hwr:=Zc fr (0,0) hz;rcases Az.mp hw with hw | hw
 ·obtain ⟨c,hc,rfl⟩:=A3.mp hw;obtain ⟨a,b,j,rfl,hj⟩:=fc c hc;refine ⟨?_,hz⟩;show (j:Int).toNat<_;omega
 ·unfold zG at hw;obtain ⟨i,hi,rfl⟩:=List.mem_mapIdx.mp hw;refine ⟨fe.st _ (List.getElem_mem hi),?_⟩;show (if i=0 then _ else _)<2 ^ 1000
  split
  ·exact Dx hwr (Xe fe.wr)
  ·exact hwr
theorem Q2 {ms:List Mv} {n:Nat} {m:Mv} {d:Aa} (hr:∀ h,(rowHeads.any fun y=>y==h)=true→(forms.lookup h).isSome=true) (he:∀ h,(endHeads.any fun y=>y==h)=true→(forms.lookup h).isSome=true) (ok:m.slots≤1000) (h:qY ms n m d=true):Sok m.states.length d:=by
 unfold qY at h;split at h
 ·rename_i rows e cts;simp only [Al,A4] at h;obtain ⟨⟨⟨⟨h1,h2⟩,h3⟩,h4⟩,h5⟩:=h;refine ⟨rows,e,cts,rfl,h1,h2,fun r hr'=>qbn hr ok (A8.mp h3 r hr'),?_,fun c hc=>?_⟩
  ·rw [jO,Al] at h4;exact qbn he ok h4.1
  ·have:=A8.mp h5 c hc;cases c with
   | tuple ds=>
    simp only [j3,qQ,Al,A4] at this
    match ds,this with
    | [a,b,x],⟨_,h⟩=>
     have h':(qJ ms n m "word" a&&(qJ ms n m "place" b&&(qJ ms n m "state" x&&true)))=true:=h;simp only [Al] at h';have hx:=h'.2.2.1;rw [Yq] at hx;obtain ⟨i,rfl,i0,i1⟩:=qR hx;exact ⟨a,b,i.toNat,by rw [Cw i0],⋯⟩
    | [],⟨h,_⟩=>cases h
    | [_],⟨h,_⟩=>cases h
    | [_,_],⟨h,_⟩=>cases h
    | _::_::_::_::_,⟨h,_⟩=>simp at h
   | _=>exact absurd this Ak
 ·exact absurd h Ak
def RwM (m:Mv):Prop:=Rw (m.states.map qW)
def rwB (d:Aa):Bool:= @decide (RwM (jz d)) (Classical.propDecidable _)
def jQ (d:Aa):Bool:=jU d&&(Wz d).all rwB
theorem rwB_iff {d:Aa}:rwB d=true↔RwM (jz d):= @decide_eq_true_iff (RwM (jz d)) (Classical.propDecidable _)
theorem yf {ms:List Mv}:∀ {l:List Mv} {n:Nat},vM ms n l=true→∀ i m,l[i]?=some m→za ms (n+i) m=true
 | [],_,_,i,m,h=>by simp at h
 | m::r,n,h,i,m',hm=>by
  rw [vM,Al] at h;cases i with
  | zero=>
   cases hm;exact h.1
  | succ i=>
   have:=yf h.2 i m' (by simpa using hm)
   rwa [show n+1+i=n+(i+1) from ⋯] at this
structure Cok (ds:List Aa):Prop where
 l1:1≤ds.length
 l2:ds.length≤300
 back:ds=(ds.map jz).map Mv.data
 okm:∀ i m,(ds.map jz)[i]?=some m→Okm i m
 inn:∀ i m,(ds.map jz)[i]?=some m→za (ds.map jz) i m=true
theorem qb9 {d:Aa} (h:jU d=true):∃ ds,d= .tuple ds∧Cok ds:=by
 cases d with
 | tuple ds=>
  simp only [jU,Al,A4] at h;obtain ⟨⟨⟨h1,h2⟩,h3⟩,h4⟩:=h;obtain ⟨e,ok⟩:=VX h3;refine ⟨ds,rfl,h1,h2,e,fun i m hm=>?_,fun i m hm=>?_⟩
  ·have:=ok i m hm
   rwa [D5] at this
  ·have:=yf h4 i m hm
   rwa [D5] at this
 | _=>exact absurd h Ak
end Cod
namespace Cod
open PySem
def plc (w:Str) (k:Nat):Aa:= .tuple [.str w,.int (k:Nat)]
def yB (names:Nat) (boxed:List Nat):List Nat:=(List.range names).filter fun k=>!(boxed.any fun y=>y==k)
def ja (names:Nat) (boxed:List Nat) (nt:Nat):List Aa:=((yB names boxed).map (plc "slot")++boxed.map (plc "box"))++(List.range nt).map (plc "taken")
structure Hd where
 kind:Str
 outer:Option Nat
 params:Nat
 names:Nat
 slots:Nat
 boxed:List Nat
 taken:List Aa
def Hd.mv (h:Hd) (sts:List Aa):Mv:=⟨h.kind,h.outer.map fun o:Nat=>(o:Int),(h.params:Nat),(h.names:Nat),(h.slots:Nat),h.boxed.map fun b:Nat=>(b:Int),h.taken,sts⟩
def Hd.d7 (h:Hd):List Aa:=[.str h.kind,Vl (h.outer.map fun o:Nat=>(o:Int)),.int (h.params:Nat),.int (h.names:Nat),.int (h.slots:Nat),.tuple ((h.boxed.map fun b:Nat=>(b:Int)).map .int),.tuple h.taken]
theorem Hd.data (h:Hd) (sts:List Aa):(h.mv sts).data= .tuple (h.d7++[.tuple sts]):=rfl
def Hd.places (h:Hd):List Aa:=ja h.names h.boxed h.taken.length
theorem wM (l:List Nat) (k:Nat):((l.map fun b:Nat=>(b:Int)).any fun y=>y==(k:Int))=l.any fun y=>y==k:=by
 rw [Ev];refine congrArg (fun p=>List.any l p) (funext fun y=>?_);show ((y:Int)==(k:Int))=(y==k);rw [Bn,Bd,Bd];omega
theorem Zs {l:List Nat} {k:Nat} (h:k∈l):(l.any fun y=>y==k)=true:=Cd.mpr ⟨k,h,Dm k⟩
theorem w6 {h:Hd} {sts:List Aa} {d:Aa} (hd:d∈h.places):zP (h.mv sts) d=true:=by
 rcases Az.mp hd with hd | hd
 ·rcases Az.mp hd with hd | hd
  ·obtain ⟨k,hk,rfl⟩:=A3.mp hd;obtain ⟨h1,h2⟩:=Dp.mp hk;have h1':=D0.mp h1;show (qy ((h.names:Nat):Int) (.int (k:Nat))&&!Zv (h.boxed.map fun b:Nat=>(b:Int)) (.int (k:Nat)))=true;show ((decide ((0:Int)≤(k:Nat))&&decide (((k:Nat):Int)<((h.names:Nat):Int)))&&!((h.boxed.map fun b:Nat=>(b:Int)).any fun y=>y==(k:Int)))=true;rw [wM,Am ⋯,Am ⋯,h2];rfl
  ·obtain ⟨k,hk,rfl⟩:=A3.mp hd;show ((h.boxed.map fun b:Nat=>(b:Int)).any fun y=>y==(k:Int))=true;rw [wM];exact Zs hk
 ·obtain ⟨k,hk,rfl⟩:=A3.mp hd;have hk':=D0.mp hk;show (decide ((0:Int)≤(k:Nat))&&decide (((k:Nat):Int)<((h.taken.length:Nat):Int)))=true;rw [Am ⋯,Am ⋯];rfl
theorem qgs {h:Hd} {sts:List Aa} {d:Aa} (hd:d∈h.places) (hs:∀ k,d≠plc "slot" k):j8 (h.mv sts) d=true:=by
 rcases Az.mp hd with hd | hd
 ·rcases Az.mp hd with hd | hd
  ·obtain ⟨k,hk,rfl⟩:=A3.mp hd;exact absurd rfl (hs k)
  ·obtain ⟨k,hk,rfl⟩:=A3.mp hd;show ((h.boxed.map fun b:Nat=>(b:Int)).any fun y=>y==(k:Int))=true;rw [wM];exact Zs hk
 ·obtain ⟨k,hk,rfl⟩:=A3.mp hd;have hk':=D0.mp hk;show (decide ((0:Int)≤(k:Nat))&&decide (((k:Nat):Int)<((h.taken.length:Nat):Int)))=true;rw [Am ⋯,Am ⋯];rfl
theorem wZ {h:Hd} {d:Aa} (hd:d∈h.places):∃ w k,d=plc w k∧(w="slot"∨w="box"∨w="taken"):=by
 rcases Az.mp hd with hd | hd
 ·rcases Az.mp hd with hd | hd
  ·obtain ⟨k,_,rfl⟩:=A3.mp hd;exact ⟨_,k,rfl,.inl rfl⟩
  ·obtain ⟨k,_,rfl⟩:=A3.mp hd;exact ⟨_,k,rfl,.inr (.inl rfl)⟩
 ·obtain ⟨k,_,rfl⟩:=A3.mp hd;exact ⟨_,k,rfl,.inr (.inr rfl)⟩
mutual
def noL:Aa→Bool
 | .list _=>false
 | .tuple xs=>zB xs
 | _=>true
def zB:List Aa→Bool
 | []=>true
 | x::xs=>noL x&&zB xs
end
theorem zE:∀ {xs:List Aa},(∀ x∈xs,noL x=true)→zB xs=true
 | [],_=>rfl
 | x::xs,h=>by
  rw [zB,h x Bi,zE fun y hy=>h y (Bg _ hy)];rfl
theorem JR:∀ {xs ys:List Aa},zB (xs++ys)=(zB xs&&zB ys)
 | [],_=>rfl
 | x::xs,ys=>by rw [List.cons_append,zB,zB,JR,Bool.and_assoc]
structure Flt (d:Aa):Prop where
 lay:d.canLay0=true
 dep:d.depth≤5
theorem ZC:∀ {xs:List Aa},(∀ x∈xs,Flt x)→PyData.canLayAll0 xs=true∧PyData.depthAll xs≤5
 | [],_=>⟨rfl,O0⟩
 | x::xs,h=>by
  obtain ⟨a,b⟩:=ZC fun y hy=>h y (Bg _ hy);obtain ⟨c,d⟩:=h x Bi;refine ⟨?_,?_⟩
  ·rw [PyData.canLayAll0,c,a];rfl
  ·rw [PyData.depthAll];omega
theorem JA {xs:List Aa} (h:∀ x∈xs,Flt x):SeqAt.shaped (.list xs)=true:=by
 obtain ⟨a,b⟩:=ZC h;unfold SeqAt.shaped;rw [PyData.canLay0,a,PyData.depth,Am ⋯];rfl
theorem ZF (xs:List Aa):PyData.eqv (.list xs) (.list [])=xs.isEmpty:=by
 cases xs with
 | nil=>rw [PyData.eqv,PyData.eqvAll];rfl
 | cons a b=>rw [PyData.eqv,PyData.eqvAll];rfl
theorem y9 {w:Str} {k:Nat} (h:w="slot"∨w="box"∨w="taken"):Flt (plc w k):=by
 have:PyData.strOk w=true:=by
  rcases h with rfl | rfl | rfl <;> decide+kernel
 refine ⟨?_,?_⟩
 ·show (PyData.strOk w&&(true&&true))=true;rw [this];rfl
 ·show PyData.depth (.tuple [.str w,.int (k:Nat)])≤5;simp [PyData.depth,PyData.depthAll]
theorem Ya {i:Int}:Flt (.int i):=⟨rfl,by simp [PyData.depth]⟩
structure HOk (least:Nat) (hs:List Hd) (i:Nat) (h:Hd):Prop where
 kd:if i=0 then h.kind="main"∧h.outer=none else (h.kind="fun"∨h.kind="loop")∧∃ o,h.outer=some o∧o<i
 pa:h.params≤4
 pn:h.params≤h.names
 nm:h.names≤7
 s1:h.names+least≤h.slots
 s2:h.slots≤h.names+least+3
 br:h.boxed.Pairwise (· < ·)
 bl:∀ b∈h.boxed,b<h.names
 bn:h.boxed.length≤7
 tk:h.taken.length≤3
 t0:i=0→h.taken=[]
 tf:∀ o h',h.outer=some o→hs[o]?=some h'→∀ d∈h.taken,d∈h'.places∧∀ k,d≠plc "slot" k
theorem W0:∀ {l:List Nat},l.Pairwise (· < ·)→JF (l.map fun b:Nat=>(b:Int))=true
 | [],_=>rfl
 | [_],_=>rfl
 | a::b::r,h=>by
  rw [List.pairwise_cons] at h;have:=W0 h.2;show (decide ((a:Int)<(b:Int))&&JF ((b::r).map fun b:Nat=>(b:Int)))=true;rw [this,Am (by have:=h.1 b Bi;omega)]
  rfl
structure Agr (hs:List Hd) (ms:List Mv):Prop where
 len:ms.length=hs.length
 out:∀ (j:Nat) (h:Hd),hs[j]?=some h→∃ m:Mv,ms[j]?=some m∧m.outer=h.outer.map fun o:Nat=>(o:Int)
def Ja (hs:List Hd) (i:Nat) (h:Hd) (d:Aa):Prop:=∀ ms sts,Agr hs ms→JV ms i (h.mv sts) d=true
def Ju (hs:List Hd) (i:Nat) (h:Hd) (many:Nat) (d:Aa):Prop:=∀ ms sts,Agr hs ms→sts.length=many→jO ms i (h.mv sts) d=true
def yw (hs:List Hd) (i:Nat) (h:Hd) (many:Nat) (d:Aa):Prop:=∀ ms sts,Agr hs ms→sts.length=many→j3 ms i (h.mv sts) d=true
section
variable {hs:List Hd} {i:Nat} {h:Hd} {many:Nat}
structure Mid (h:Hd) (s:Nat):Prop where
 lo:h.names≤s
 hi:s<h.slots
theorem jj {s:Nat} {sts:List Aa} (m:Mid h s):isMid (h.mv sts) (.int (s:Nat))=true:=by
 have h1:=m.lo;have h2:=m.hi;show ((decide ((0:Int)≤(s:Nat))&&decide (((s:Nat):Int)<((h.slots:Nat):Int)))&&decide (((h.names:Nat):Int)≤(s:Nat)))=true;rw [Am ⋯,Am ⋯,Am ⋯];rfl
theorem we {n:Nat} {sts:List Aa} (hn:n<many) (hl:sts.length=many):qy ((h.mv sts).states.length) (.int (n:Nat))=true:=by
 show (decide ((0:Int)≤(n:Nat))&&decide (((n:Nat):Int)<((sts.length:Nat):Int)))=true;rw [Am ⋯,Am ⋯];rfl
theorem qej {a b c:Bool} (ha:a=true) (hb:b=true) (hc:c=true):(a&&(b&&c))=true:=by rw [ha,hb,hc];rfl
theorem wX {s:Nat} {x:Int} (m:Mid h s) (hx:Tre.XE x=true):Ja hs i h (.tuple [.str "number",.int (s:Nat),.int x]):=fun ms sts _=>by
 show (isMid (h.mv sts) (.int (s:Nat))&&(Tre.Jt (.int x)&&true))=true;exact qej (jj m) hx rfl
theorem qaa {s:Nat} {d:Aa} (m:Mid h s) (hd:d∈h.places):Ja hs i h (.tuple [.str "read",.int (s:Nat),d]):=fun ms sts _=>by
 show (isMid (h.mv sts) (.int (s:Nat))&&(zP (h.mv sts) d&&true))=true;exact qej (jj m) (w6 hd) rfl
theorem Z6 {s:Nat} {d:Aa} (m:Mid h s) (hd:d∈h.places):Ja hs i h (.tuple [.str "write",d,.int (s:Nat)]):=fun ms sts _=>by
 show (zP (h.mv sts) d&&(isMid (h.mv sts) (.int (s:Nat))&&true))=true;exact qej (w6 hd) (jj m) rfl
theorem qcz {s u v:Nat} {z:Str} (m:Mid h s) (mu:Mid h u) (mv:Mid h v) (hz:V6 (.str z)=true):Ja hs i h (.tuple [.str "two",.int (s:Nat),.str z,.int (u:Nat),.int (v:Nat)]):=fun ms sts _=>by
 show (isMid (h.mv sts) (.int (s:Nat))&&(V6 (.str z)&&(isMid (h.mv sts) (.int (u:Nat))&&(isMid (h.mv sts) (.int (v:Nat))&&true))))=true;rw [jj m,jj mu,jj mv,hz];rfl
theorem qab {s j:Nat} {hj:Hd} (m:Mid h s) (e:hs[j]?=some hj) (eo:hj.outer=some i):Ja hs i h (.tuple [.str "make",.int (s:Nat),.int (j:Nat)]):=fun ms sts ag=>by
 obtain ⟨mj,em,eo2⟩:=ag.out j hj e;have hl:=(A2.mp em).1;have e1:Jm ms i (.int (j:Nat))=true:=by
  show ((decide ((0:Int)≤(j:Nat))&&decide (((j:Nat):Int)<((ms.length:Nat):Int)))&&((ms[((j:Nat):Int).toNat]?).map (·.outer)==some (some (i:Int))))=true;rw [Am ⋯,Am ⋯,Bf,em,Dr,eo2,eo];simp
 show (isMid (h.mv sts) (.int (s:Nat))&&(Jm ms i (.int (j:Nat))&&true))=true;exact qej (jj m) e1 rfl
theorem Yc {w:Str} {n:Nat} (hw:w="go"∨w="while") (hn:n<many):Ju hs i h many (.tuple [.str w,.int (n:Nat)]):=fun ms sts _ hl=>by
 rcases hw with rfl | rfl
 all_goals
  show ((qy ((h.mv sts).states.length) (.int (n:Nat))&&true)&&true)=true;rw [we hn hl];rfl
theorem qgu {s n k:Nat} (m:Mid h s) (hn:n<many) (hk:k<many):Ju hs i h many (.tuple [.str "if",.int (s:Nat),.int (n:Nat),.int (k:Nat)]):=fun ms sts _ hl=>by
 show ((isMid (h.mv sts) (.int (s:Nat))&&(qy ((h.mv sts).states.length) (.int (n:Nat))&&(qy ((h.mv sts).states.length) (.int (k:Nat))&&true)))&&true)=true;rw [jj m,we hn hl,we hk hl];rfl
theorem qbr {s u n:Nat} {l:List Nat} (m:Mid h s) (mu:Mid h u) (ml:∀ x∈l,Mid h x) (hl4:l.length≤4) (hn:n<many):Ju hs i h many (.tuple [.str "call",.int (s:Nat),.int (u:Nat),.tuple ((l.map fun j:Nat=>(j:Int)).map .int),.int (n:Nat)]):=fun ms sts _ hl=>by
 have ea:jX (h.mv sts) (.tuple ((l.map fun j:Nat=>(j:Int)).map .int))=true:=by
  rw [jX,Al,A4,Aj,Aj];refine ⟨hl4,A8.mpr fun x hx=>?_⟩;obtain ⟨y,hy,rfl⟩:=A3.mp hx;obtain ⟨z,hz,rfl⟩:=A3.mp hy;exact jj (ml z hz)
 show ((isMid (h.mv sts) (.int (s:Nat))&&(isMid (h.mv sts) (.int (u:Nat))&&(jX (h.mv sts) (.tuple ((l.map fun j:Nat=>(j:Int)).map .int))&&(qy ((h.mv sts).states.length) (.int (n:Nat))&&true))))&&true)=true;rw [jj m,jj mu,ea,we hn hl];rfl
theorem qbp {s u n k:Nat} (m:Mid h s) (mu:Mid h u) (hn:n<many) (hk:k<many):Ju hs i h many (.tuple [.str "step",.int (s:Nat),.int (u:Nat),.int (n:Nat),.int (k:Nat)]):=fun ms sts _ hl=>by
 show ((isMid (h.mv sts) (.int (s:Nat))&&(isMid (h.mv sts) (.int (u:Nat))&&(qy ((h.mv sts).states.length) (.int (n:Nat))&&(qy ((h.mv sts).states.length) (.int (k:Nat))&&true))))&&true)=true;rw [jj m,jj mu,we hn hl,we hk hl];rfl
theorem qbq {s n:Nat} (m:Mid h s) (hn:n<many) (hk:h.kind≠"fun"):Ju hs i h many (.tuple [.str "hand",.int (s:Nat),.int (n:Nat)]):=fun ms sts _ hl=>by
 show ((isMid (h.mv sts) (.int (s:Nat))&&(qy ((h.mv sts).states.length) (.int (n:Nat))&&true))&&(false||!(h.kind=="fun")))=true;rw [jj m,we hn hl,Bv.mpr hk];rfl
theorem Qw {s:Nat} {w:Str} (m:Mid h s) (hw:Tre.JH w=true) (ha:(w=="any")=false):Ju hs i h many (.tuple [.str "fault",.str w,.int (s:Nat)]):=fun ms sts _ hl=>by
 show (((Tre.JH w&&!(w=="any"))&&(isMid (h.mv sts) (.int (s:Nat))&&true))&&true)=true;rw [jj m,hw,ha];rfl
theorem qbs {s:Nat} (m:Mid h s):Ju hs i h many (.tuple [.str "back",.int (s:Nat)]):=fun ms sts _ hl=>by
 show (((false||isMid (h.mv sts) (.int (s:Nat)))&&true)&&true)=true;rw [jj m];rfl
theorem end_none:Ju hs i h many (.tuple [.str "back",.none]):=fun ms sts _ hl=>rfl
theorem qg4 {w:Str} {d:Aa} {n:Nat} (hw:Tre.JH w=true) (hd:d∈h.places) (hn:n<many):yw hs i h many (.tuple [.str w,d,.int (n:Nat)]):=fun ms sts _ hl=>by
 show (Tre.JH w&&(zP (h.mv sts) d&&(qy ((h.mv sts).states.length) (.int (n:Nat))&&true)))=true;rw [hw,w6 hd,we hn hl];rfl
end
theorem yY {m:Mv} {d:Aa} (h:isMid m d=true):noL d=true:=by
 rw [isMid,Al] at h;obtain ⟨i,rfl,_⟩:=qR h.1;rfl
theorem Zp {m:Mv} {d:Aa} (h:j8 m d=true):noL d=true:=by
 unfold j8 at h;split at h
 ·rename_i w x;have:noL x=true:=by
   split at h
   ·cases x <;> first | rfl | exact absurd h Ak
   ·rw [Al] at h;obtain ⟨i,rfl,_⟩:=qR h.2;rfl
  show (true&&(noL x&&true))=true;rw [this];rfl
 ·exact absurd h Ak
theorem Qi {m:Mv} {d:Aa} (h:zP m d=true):noL d=true:=by
 unfold zP at h;split at h
 ·rename_i w x;split at h
  ·rw [Al] at h;obtain ⟨i,rfl,_⟩:=qR h.1;rfl
  ·exact Zp h
 ·exact absurd h Ak
theorem Qh {ms:List Mv} {n:Nat} {m:Mv} {sh:Str} {d:Aa} (h:qJ ms n m sh d=true):noL d=true:=by
 unfold qJ at h;split at h
 ·exact yY h
 ·split at h
  ·cases d with
   | tuple xs=>
    rw [jX,Al] at h;exact zE fun x hx=>yY (A8.mp h.2 x hx)
   | _=>exact absurd h Ak
  ·split at h
   ·rw [Cc] at h;rcases h with h | h
    ·cases d <;> first | rfl | exact absurd h Ak
    ·exact yY h
   ·split at h
    ·exact Qi h
    ·split at h
     ·obtain ⟨i,rfl,_⟩:=qR h;rfl
     ·split at h
      ·rw [Jm,Al] at h;obtain ⟨i,rfl,_⟩:=qR h.1;rfl
      ·split at h
       ·cases d <;> first | rfl | exact absurd h Ak
       ·split at h
        ·cases d <;> first | rfl | exact absurd h Ak
        ·split at h
         ·cases d <;> first | rfl | exact absurd h Ak
         ·rw [Al] at h;cases d <;> first | rfl | exact absurd h.1 Ak
theorem Wi {ms:List Mv} {n:Nat} {m:Mv} {shs:List Str} {ds:List Aa} (h:qQ ms n m shs ds=true):zB ds=true:=by
 rw [qQ,Al,A4] at h;refine zE fun x hx=>?_;obtain ⟨i,hi,rfl⟩:=Cf.mp hx;have hz:(ds.zip shs)[i]?=some (ds[i],shs[i]'⋯):=Bo.mpr ⟨Ah hi,Ah ⋯⟩;exact Qh (A8.mp h.2 _ (A0 hz))
theorem VE {heads:List Str} {ms:List Mv} {n:Nat} {m:Mv} {d:Aa} (h:zw heads ms n m d=true):noL d=true:=by
 obtain ⟨z,ds,rfl⟩:=vj h;simp only [zw,Al] at h;show (true&&zB ds)=true;rw [Wi h.2];rfl
theorem W8 {ms:List Mv} {n:Nat} {m:Mv} {d:Aa} (h:j3 ms n m d=true):noL d=true:=by
 cases d with
 | tuple ds=>exact Wi h
 | _=>exact absurd h Ak
theorem WH (hs:List Hd) (f:Hd→List Aa):Agr hs (hs.map fun h=>h.mv (f h)):=⟨Aj ..,fun j h e=>⟨h.mv (f h),by rw [Au,e];rfl,rfl⟩⟩
theorem Ja.noL {hs:List Hd} {i:Nat} {h:Hd} {d:Aa} (r:Ja hs i h d):noL d=true:=VE (r _ [] (WH hs fun _=>[]))
theorem Ju.noL {hs:List Hd} {i many:Nat} {h:Hd} {d:Aa} (r:Ju hs i h many d):noL d=true:=by
 have:=r _ (List.replicate many .none) (WH hs fun _=>[]) (Dy ..);rw [jO,Al] at this;exact VE this.1
theorem yw.noL {hs:List Hd} {i many:Nat} {h:Hd} {d:Aa} (r:yw hs i h many d):noL d=true:=W8 (r _ (List.replicate many .none) (WH hs fun _=>[]) (Dy ..))
def num0 (s:Nat):Aa:= .tuple [.str "number",.int (s:Nat),.int 0]
structure StOk (hs:List Hd) (i:Nat) (h:Hd) (many:Nat) (whole:Bool) (k:Nat) (d:Aa):Prop where
 ex:∃ rows e cts,d= .tuple [.tuple rows,e,.tuple cts]∧rows.length≤20∧(∀ r∈rows,Ja hs i h r)∧Ju hs i h many e∧cts.length≤2∧(∀ c∈cts,yw hs i h many c)∧
  (whole=true→k=0→cts=[]∧∃ rest,rows=(List.range' h.names (h.slots - h.names)).map num0++rest)
theorem StOk.noL {hs:List Hd} {i:Nat} {h:Hd} {many:Nat} {whole:Bool} {k:Nat} {d:Aa} (s:StOk hs i h many whole k d):Cod.noL d=true:=by
 obtain ⟨rows,e,cts,rfl,_,r1,r2,_,r3,_⟩:=s.ex;have a:zB rows=true:=zE fun x hx=>(r1 x hx).noL;have b:zB cts=true:=zE fun x hx=>(r3 x hx).noL;show (zB rows&&(Cod.noL e&&(zB cts&&true)))=true;rw [a,b,r2.noL];rfl
structure MsOk (least:Nat) (whole:Bool) (hs:List Hd) (i:Nat) (h:Hd) (sts:List Aa):Prop where
 l1:1≤sts.length
 l5:sts.length≤5
 st:∀ k d,sts[k]?=some d→StOk hs i h sts.length whole k d
end Cod
namespace L2
open PySem PySem.Spec PyProof.Rows
section
variable {X:Cx} {pins:List (Ac×Obj)} {σ:St} {H H':Hp} {s:Ae} {K:Frag}
end
section
variable {X:Cx} {K:Frag}
end
end L2
namespace Cod
open PySem
theorem Zx (l:List Int):(l.map PyData.int).map intOf=l:=by
 rw [Bm];exact List.map_id _
theorem qf1 (o:Option Int):Wd (Vl o)=o:=by cases o <;> rfl
theorem ZR (m:Mv):jz m.data=m:=by
 show Mv.mk m.kind (Wd (Vl m.outer)) m.params m.names m.slots ((m.boxed.map PyData.int).map intOf) m.taken m.states=m;rw [Zx,qf1]
theorem qhh (ms:List Mv):(ms.map Mv.data).map jz=ms:=by
 rw [Bm];exact (C4 fun m _=>ZR m).trans (List.map_id _)
theorem Wr {n i:Int} (h0:0≤i) (h1:i<n):qy n (.int i)=true:=by
 show (decide (0≤i)&&decide (i<n))=true;rw [Am h0,Am h1];rfl
theorem qax {n:Nat} {m:Mv} (h:Okm n m):zF n m.data=true:=by
 have a:JG n (.str m.kind) (Vl m.outer)=true:=by
  have kd:=h.kd;unfold JG
  by_cases z:n=0
  ·rw [if_pos z] at kd;simp only [if_pos z,kd.1,kd.2];rfl
  ·rw [if_neg z] at kd;obtain ⟨k,o,eo,o0,o1⟩:=kd;simp only [if_neg z,eo,Vl,Wr o0 o1,Et];rcases k with k | k <;> rw [k] <;> rfl
 have b:jI (.int m.params) (.int m.names) (.int m.slots)=true:=by
  have:=h.s1;have:=h.n0;have:=h.n1;have:=h.p0;have:=h.p1;have:=h.p2;show (qy 1001 (.int m.slots)&&qy (m.slots+1) (.int m.names)&&qy ((if (4:Int)<m.names then 4 else m.names)+1) (.int m.params))=true
  rw [Wr ⋯ ⋯,Wr ⋯ ⋯,Wr ⋯ (by split <;> omega)]
  rfl
 have c:jH m.names (.tuple (m.boxed.map .int))=true:=by
  show ((m.boxed.map PyData.int).all (qy m.names)&&JF ((m.boxed.map PyData.int).map intOf))=true;rw [Zx,h.br,Et,A8];intro x hx;obtain ⟨y,hy,rfl⟩:=A3.mp hx;exact Wr (h.b0 y hy).1 (h.b0 y hy).2
 have d:isTup 1 2000 (.tuple m.states)=true:=by
  show (decide (1≤m.states.length)&&decide (m.states.length≤2000))=true;rw [Am h.st1,Am h.st2];rfl
 show (JG n (.str m.kind) (Vl m.outer)&&jI (.int m.params) (.int m.names) (.int m.slots)&&jH m.names (.tuple (m.boxed.map .int))&&true&&isTup 1 2000 (.tuple m.states))=true;rw [a,b,c,d];rfl
theorem W6:∀ {ms:List Mv} {n:Nat},(∀ i m,ms[i]?=some m→Okm (n+i) m)→J9 n (ms.map Mv.data)=true
 | [],_,_=>rfl
 | m::r,n,h=>by
  rw [Bb,J9,qax (show Okm n m from h 0 m rfl),W6 fun i m' e=>by
   have:=h (i+1) m' (by simpa using e)
   rwa [show n+(i+1)=n+1+i from ⋯] at this]
  rfl
theorem ye {ms:List Mv}:∀ {l:List Mv} {n:Nat},(∀ i m,l[i]?=some m→za ms (n+i) m=true)→vM ms n l=true
 | [],_,_=>rfl
 | m::r,n,h=>by
  rw [vM,ye (l:=r) (n:=n+1) fun i m' e=>by
   have:=h (i+1) m' (by simpa using e)
   rwa [show n+(i+1)=n+1+i from ⋯] at this,Et]
  exact h 0 m rfl
theorem qeg {ms:List Mv} (l1:1≤ms.length) (l2:ms.length≤300) (ok:∀ i m,ms[i]?=some m→Okm i m) (inn:∀ i m,ms[i]?=some m→za ms i m=true):jU (.tuple (ms.map Mv.data))=true:=by
 rw [jU,qhh,Aj,Am l1,Am l2,W6 fun i m e=>by rw [D5];exact ok i m e,ye fun i m e=>by rw [D5];exact inn i m e]
 rfl
section
variable {ms ms':List Mv} {m m':Mv} {n:Nat} {sh:Str} {d:Aa}
end
theorem qcg {s:Nat}:∀ {l:List Nat} {b:Nat},(l.foldl (fun b s=>b||| 2 ^ s) b).testBit s=true↔b.testBit s=true∨s∈l
 | [],b=>by simp
 | j::l,b=>by
  rw [List.foldl_cons,qcg (l:=l),Dz,Nat.testBit_two_pow,Cc,A4,Av];constructor
  ·rintro ((h | h) | h)
   ·exact .inl h
   ·exact .inr (.inl h.symm)
   ·exact .inr (.inr h)
  ·rintro (h | h | h)
   ·exact .inl (.inl h)
   ·exact .inl (.inr h.symm)
   ·exact .inr h
theorem Xd {s:Nat} {l:List Nat}:(bitsL l).testBit s=true↔s∈l:=by
 unfold bitsL;rw [qcg,B4];simp
def Rd (A:Nat→Prop) (d:Aa):Prop:=∃ rows e cts,d= .tuple [.tuple rows,e,.tuple cts]∧(∀ r∈rows,∀ j∈zY r,A j)∧∀ j∈zY e,A j
theorem wf {s:Nat}:∀ {rows:List Aa} {q:Nat×Nat},(rows.foldl qE q).1.testBit s=true→q.1.testBit s=true∨∃ r∈rows,s∈zY r
 | [],_,h=> .inl h
 | r::rows,q,h=>by
  rcases wf (rows:=rows) h with h | ⟨x,hx,h⟩
  ·have h':(q.1||| dif (bitsL (zY r)) q.2).testBit s=true:=h
   rw [Dz,Cc,vp,Al,Xd] at h';rcases h' with h' | h'
   ·exact .inl h'
   ·exact .inr ⟨r,Bi,h'.1⟩
  ·exact .inr ⟨x,Bg _ hx,h⟩
theorem W3 {heads:List Str} {ms:List Mv} {n:Nat} {m:Mv} {d:Aa} (hh:∀ h,(heads.any fun y=>y==h)=true→(forms.lookup h).isSome=true) (h:zw heads ms n m d=true):∀ j∈zY d,m.names≤(j:Int)∧(j:Int)<m.slots:=by
 obtain ⟨z,ds,rfl⟩:=vj h;simp only [zw,Al] at h;obtain ⟨fs,hf⟩:=Cr.mp (hh z h.1);have h2:=h.2;rw [hf,Eb,qQ,Al,A4] at h2;have ez:zOf (.tuple (.str z::ds))=ds.zip fs:=by
  unfold zOf;show ds.zip ((forms.lookup z).getD [])=_;rw [hf];rfl
 have hs:∀ p∈zOf (.tuple (.str z::ds)),qJ ms n m p.2 p.1=true:=fun p hp=>by
  rw [ez] at hp;exact A8.mp h2.2 p hp
 have mid:∀ {x:Aa},isMid m x=true→m.names≤((JS x:Nat):Int)∧((JS x:Nat):Int)<m.slots:=fun {x} hx=>by
  rw [isMid,Al,A4] at hx;obtain ⟨i,rfl,i0,i1⟩:=qR hx.1;have:=hx.2;have e:JS (.int i)=i.toNat:=rfl;have e':intOf (.int i)=i:=rfl;rw [e'] at this;rw [e];omega
 intro j hj;obtain ⟨p,hp,hj⟩:=List.mem_flatMap.mp hj;have hp':=hs p hp;unfold v8 at hj;split at hj
 ·rename_i e;rw [e,qev] at hp';rw [Ay.mp hj];exact mid hp'
 ·split at hj
  ·rename_i e;rw [e,wD,Cc] at hp';split at hj
   ·cases hj
   ·rename_i e2;rw [Ay.mp hj];rcases hp' with z | z
    ·exact absurd z e2
    ·exact mid z
  ·split at hj
   ·rename_i e;rw [e,wE] at hp';obtain ⟨x,hx,rfl⟩:=A3.mp hj;obtain ⟨p1,p2⟩:=p;cases p1 with
    | tuple xs=>
     rw [jX,Al,A8] at hp';exact mid (hp'.2 x hx)
    | _=>exact absurd hp' Ak
   ·cases hj
theorem qbf {ms:List Mv} {n:Nat} {m:Mv} (h1:if n=0 then m.taken=[] else ∃ o m',m.outer=some o∧ms[o.toNat]?=some m'∧m.taken.all (j8 m')=true) (h2:∀ d∈m.states,qY ms n m d=true):za ms n m=true:=by
 rw [za,Al,A8];refine ⟨?_,h2⟩
 by_cases z:n=0
 ·rw [if_pos z] at h1 ⊢;rw [h1];rfl
 ·rw [if_neg z] at h1 ⊢;obtain ⟨o,m',eo,em,h⟩:=h1;rw [eo];simp only [em];exact h
def vP (hs:List Hd) (sts:List (List Aa)):List Mv:=(hs.zip sts).map fun p=>p.1.mv p.2
theorem wc {hs:List Hd} {sts:List (List Aa)} {i:Nat} {m:Mv} (h:(vP hs sts)[i]?=some m):∃ hd ss,hs[i]?=some hd∧sts[i]?=some ss∧m=hd.mv ss:=by
 unfold vP at h;rw [Au] at h;obtain ⟨p,hp,rfl⟩:=C7.mp h;obtain ⟨a,b⟩:=Bo.mp hp;exact ⟨p.1,p.2,a,b,rfl⟩
theorem Xa {hs:List Hd} {sts:List (List Aa)} {i:Nat} {hd:Hd} {ss:List Aa} (h:hs[i]?=some hd) (g:sts[i]?=some ss):(vP hs sts)[i]?=some (hd.mv ss):=by
 unfold vP;have e:(hs.zip sts)[i]?=some (hd,ss):=Bo.mpr ⟨h,g⟩;rw [Au,e];rfl
theorem yo {hs:List Hd} {sts:List (List Aa)} (h:sts.length=hs.length):(vP hs sts).length=hs.length:=by
 unfold vP;rw [Aj,Cg];omega
theorem QC {hs:List Hd} {sts:List (List Aa)} (h:sts.length=hs.length):Agr hs (vP hs sts):=⟨yo h,fun j hd e=>by
 have hj:=(A2.mp e).1;exact ⟨_,Xa e (Ah ⋯),rfl⟩⟩
theorem row_heads:∀ h,(rowHeads.any fun y=>y==h)=true→(forms.lookup h).isSome=true:=fun h e=>by
 obtain ⟨y,hy,e⟩:=Cd.mp e;rw [← Bd.mp e];simp only [rowHeads,Av,A7,or_false] at hy;rcases hy with rfl | rfl | rfl | rfl | rfl <;> rfl
theorem end_heads:∀ h,(endHeads.any fun y=>y==h)=true→(forms.lookup h).isSome=true:=fun h e=>by
 obtain ⟨y,hy,e⟩:=Cd.mp e;rw [← Bd.mp e];simp only [endHeads,Av,A7,or_false] at hy;rcases hy with rfl | rfl | rfl | rfl | rfl | rfl | rfl | rfl <;> rfl
section
variable {least:Nat} {whole:Bool} {hs:List Hd} {sts:List (List Aa)} {i:Nat} {h:Hd} {ss:List Aa}
theorem qf6 (hk:HOk least hs i h) (hl:least≤2) (ms:MsOk least whole hs i h ss):Okm i (h.mv ss):=by
 have:=hk.pa;have:=hk.pn;have:=hk.nm;have:=hk.s1;have:=hk.s2;refine ⟨?_,?_,?_,?_,?_,?_,?_,fun b hb=>?_,W0 hk.br,ms.l1,As ms.l5 O0⟩
 ·have kd:=hk.kd
  by_cases z:i=0
  ·rw [if_pos z] at kd ⊢;refine ⟨kd.1,?_⟩;show h.outer.map _=none;rw [kd.2];rfl
  ·rw [if_neg z] at kd ⊢;obtain ⟨k,o,eo,lt⟩:=kd;refine ⟨k,(o:Nat),?_,⋯,⋯⟩;show h.outer.map _=some _;rw [eo];rfl
 ·show ((h.slots:Nat):Int)≤1000;omega
 ·show (0:Int)≤((h.names:Nat):Int);omega
 ·show ((h.names:Nat):Int)≤((h.slots:Nat):Int);omega
 ·show (0:Int)≤((h.params:Nat):Int);omega
 ·show ((h.params:Nat):Int)≤((h.names:Nat):Int);omega
 ·show ((h.params:Nat):Int)≤4;omega
 ·obtain ⟨x,hx,rfl⟩:=A3.mp hb;have:=hk.bl x hx;show (0:Int)≤((x:Nat):Int)∧((x:Nat):Int)<((h.names:Nat):Int);omega
theorem QY {ms:List Mv} {many k:Nat} {d:Aa} (ag:Agr hs ms) (el:ss.length=many) (st:StOk hs i h many whole k d):qY ms i (h.mv ss) d=true:=by
 obtain ⟨rows,e,cts,rfl,r1,r2,r3,r4,r5,_⟩:=st.ex;show (decide (rows.length≤1000)&&decide (cts.length≤20)&&rows.all (JV ms i (h.mv ss))&&jO ms i (h.mv ss) e&&cts.all (j3 ms i (h.mv ss)))=true;rw [Am ⋯,Am ⋯,A8.mpr fun r hr=>r2 r hr ms ss ag,r3 ms ss ag el,A8.mpr fun c hc=>r5 c hc ms ss ag el];rfl
theorem Y0 (hl:sts.length=hs.length) (hk:HOk least hs i h) (ms:MsOk least whole hs i h ss) (hi:i<hs.length):za (vP hs sts) i (h.mv ss)=true:=by
 refine qbf ?_ fun d hd=>?_
 ·by_cases z:i=0
  ·rw [if_pos z];exact hk.t0 z
  ·rw [if_neg z];have kd:=hk.kd;rw [if_neg z] at kd;obtain ⟨_,o,eo,lt⟩:=kd;have e1:=Ah (l:=hs) (i:=o) ⋯;have e2:=Ah (l:=sts) (i:=o) ⋯;refine ⟨(o:Nat),_,?_,by rw [Bf];exact Xa e1 e2,?_⟩
   ·show h.outer.map _=some _;rw [eo];rfl
   ·rw [A8];intro x hx;obtain ⟨a,b⟩:=hk.tf o _ eo e1 x hx;exact qgs a b
 ·obtain ⟨k,hk',e⟩:=Cf.mp (show d∈ss from hd);exact QY (QC hl) rfl (ms.st k d (by rw [Ah hk',e]))
theorem qae {ms:List Mv} {m:Mv} {n:Nat} {d:Aa} {a b:Nat} (ea:m.names=(a:Nat)) (eb:m.slots=(b:Nat)) (h:qY ms n m d=true):Rd (fun s=>a≤s∧s<b) d:=by
 unfold qY at h;split at h
 ·rename_i rows e cts;simp only [Al,A8] at h;refine ⟨rows,e,cts,rfl,fun r hr j hj=>?_,fun j hj=>?_⟩
  ·have:=W3 row_heads (h.1.1.2 r hr) j hj;omega
  ·have he:=h.1.2;rw [jO,Al] at he;have:=W3 end_heads he.1 j hj;omega
 ·exact absurd h Ak
end
section
variable {ms:List Mv} {n:Nat} {m:Mv} {a:Str} {shs:List Str} {d:Aa} {ds:List Aa} {s:Nat}
theorem qp (h:qQ ms n m (a::shs) ds=true):∃ x r,ds=x::r∧qJ ms n m a x=true∧qQ ms n m shs r=true:=by
 unfold qQ at h;rw [Al,A4] at h;obtain ⟨h1,h2⟩:=h;cases ds with
 | nil=>cases h1
 | cons x r=>
  rw [List.zip_cons_cons,C3,Al] at h2;refine ⟨x,r,rfl,h2.1,?_⟩;unfold qQ;rw [Al,A4];exact ⟨by simpa using h1,h2.2⟩
theorem zf (h:qQ ms n m [] ds=true):ds=[]:=by
 unfold qQ at h;rw [Al,A4] at h;exact List.length_eq_zero_iff.mp h.1
theorem Ji (h:isMid m d=true):∃ j:Nat,d= .int (j:Nat):=by
 rw [isMid,Al] at h;obtain ⟨i,rfl,h0,_⟩:=qR h.1;exact ⟨i.toNat,by rw [Cw h0]⟩
theorem qa4:∀ {ds:List Aa},ds.all (isMid m)=true→∃ l:List Nat,ds=l.map fun j:Nat=> .int (j:Int)
 | [],_=>⟨[],rfl⟩
 | d::ds,h=>by
  rw [C3,Al] at h;obtain ⟨j,rfl⟩:=Ji h.1;obtain ⟨l,rfl⟩:=qa4 h.2;exact ⟨j::l,rfl⟩
theorem yy (h:qy m.states.length d=true):∃ j:Nat,d= .int (j:Nat)∧j<m.states.length:=by
 obtain ⟨i,rfl,h0,h1⟩:=qR h;exact ⟨i.toNat,by rw [Cw h0],⋯⟩
inductive RowV:Aa→List Nat→List Nat→Prop
 | one {z:Str} {s:Nat} {x:Aa}:z="number"∨z="read"∨z="make"→RowV (.tuple [.str z,.int (s:Nat),x]) [] [s]
 | write {x:Aa} {s:Nat}:RowV (.tuple [.str "write",x,.int (s:Nat)]) [s] []
 | two {s u v:Nat} {x:Aa}:RowV (.tuple [.str "two",.int (s:Nat),x,.int (u:Nat),.int (v:Nat)]) [u,v] [s]
theorem qh2 (h:JV ms n m d=true):RowV d (zY d) (jP d):=by
 unfold JV at h;obtain ⟨z,ds,rfl⟩:=vj h;simp only [zw,Al] at h;obtain ⟨h1,h2⟩:=h;have hz:z∈rowHeads:=by
  obtain ⟨y,hy,e⟩:=Cd.mp h1;rw [Bd] at e;exact e▸hy
 simp only [rowHeads,Av,A7,or_false] at hz;rcases hz with rfl | rfl | rfl | rfl | rfl
 ·obtain ⟨x,r,rfl,q,h2⟩:=qp h2;obtain ⟨y,r,rfl,_,h2⟩:=qp h2;cases zf h2;obtain ⟨s,rfl⟩:=Ji q;exact .one (.inl rfl)
 ·obtain ⟨x,r,rfl,q,h2⟩:=qp h2;obtain ⟨y,r,rfl,_,h2⟩:=qp h2;cases zf h2;obtain ⟨s,rfl⟩:=Ji q;exact .one (.inr (.inl rfl))
 ·obtain ⟨x,r,rfl,_,h2⟩:=qp h2;obtain ⟨y,r,rfl,q,h2⟩:=qp h2;cases zf h2;obtain ⟨s,rfl⟩:=Ji q;exact .write
 ·obtain ⟨x,r,rfl,q1,h2⟩:=qp h2;obtain ⟨y,r,rfl,_,h2⟩:=qp h2;obtain ⟨x3,r,rfl,q3,h2⟩:=qp h2;obtain ⟨x4,r,rfl,q4,h2⟩:=qp h2;cases zf h2;obtain ⟨s,rfl⟩:=Ji q1;obtain ⟨u,rfl⟩:=Ji q3;obtain ⟨v,rfl⟩:=Ji q4;exact .two
 ·obtain ⟨x,r,rfl,q,h2⟩:=qp h2;obtain ⟨y,r,rfl,_,h2⟩:=qp h2;cases zf h2;obtain ⟨s,rfl⟩:=Ji q;exact .one (.inr (.inr rfl))
inductive EndV:Aa→List Nat→List Nat→List Nat→Prop
 | go {z:Str} {t:Nat}:z="go"∨z="while"→EndV (.tuple [.str z,.int (t:Nat)]) [] [] [t]
 | iff {s t u:Nat}:EndV (.tuple [.str "if",.int (s:Nat),.int (t:Nat),.int (u:Nat)]) [s] [] [t,u]
 | call {s u t:Nat} {l:List Nat}:l.length≤4→EndV (.tuple [.str "call",.int (s:Nat),.int (u:Nat),.tuple (l.map fun j:Nat=> .int (j:Int)),.int (t:Nat)]) (u::l) [s] [t]
 | step {s u t v:Nat}:EndV (.tuple [.str "step",.int (s:Nat),.int (u:Nat),.int (t:Nat),.int (v:Nat)]) [u] [s] [t,v]
 | hand {s t:Nat}:EndV (.tuple [.str "hand",.int (s:Nat),.int (t:Nat)]) [s] [] [t]
 | back {s:Nat}:EndV (.tuple [.str "back",.int (s:Nat)]) [s] [] []
 | none:EndV (.tuple [.str "back",.none]) [] [] []
 | fault {x:Aa} {s:Nat}:EndV (.tuple [.str "fault",x,.int (s:Nat)]) [s] [] []
theorem qdi (l:List Nat):(l.map fun j:Nat=>PyData.int (j:Int)).map JS=l:=by
 rw [Bm]
 conv=>rhs;rw [← List.map_id l]
 rfl
theorem qi7 (h:jO ms n m d=true):EndV d (zY d) (jP d) (JJ d):=by
 unfold jO at h;rw [Al] at h;have h:=h.1;obtain ⟨z,ds,rfl⟩:=vj h;simp only [zw,Al] at h;obtain ⟨h1,h2⟩:=h;have hz:z∈endHeads:=by
  obtain ⟨y,hy,e⟩:=Cd.mp h1;rw [Bd] at e;exact e▸hy
 simp only [endHeads,Av,A7,or_false] at hz;rcases hz with rfl | rfl | rfl | rfl | rfl | rfl | rfl | rfl
 ·obtain ⟨x,r,rfl,q,h2⟩:=qp h2;cases zf h2;obtain ⟨t,rfl,_⟩:=yy q;exact .go (.inl rfl)
 ·obtain ⟨x,r,rfl,q1,h2⟩:=qp h2;obtain ⟨x2,r,rfl,q2,h2⟩:=qp h2;obtain ⟨x3,r,rfl,q3,h2⟩:=qp h2;cases zf h2;obtain ⟨s,rfl⟩:=Ji q1;obtain ⟨t,rfl,_⟩:=yy q2;obtain ⟨u,rfl,_⟩:=yy q3;exact .iff
 ·obtain ⟨x,r,rfl,q,h2⟩:=qp h2;cases zf h2;obtain ⟨t,rfl,_⟩:=yy q;exact .go (.inr rfl)
 ·obtain ⟨x,r,rfl,q1,h2⟩:=qp h2;obtain ⟨x2,r,rfl,q2,h2⟩:=qp h2;obtain ⟨x3,r,rfl,q3,h2⟩:=qp h2;obtain ⟨x4,r,rfl,q4,h2⟩:=qp h2;cases zf h2;obtain ⟨s,rfl⟩:=Ji q1;obtain ⟨u,rfl⟩:=Ji q2;obtain ⟨t,rfl,_⟩:=yy q4;cases x3 with
  | tuple xs=>
   rw [wE] at q3;simp only [jX,Al,A4] at q3;obtain ⟨l,rfl⟩:=qa4 q3.2;have e:zY (.tuple [.str "call",.int (s:Nat),.int (u:Nat),.tuple (l.map fun j:Nat=> .int (j:Int)),.int (t:Nat)])=u::l:=by
    show u::((l.map fun j:Nat=>PyData.int (j:Int)).map JS++([]++[]))=_;rw [qdi,Cj,Cj]
   rw [e];exact .call (by simpa using q3.1)
  | _=>exact absurd q3 Ak
 ·obtain ⟨x,r,rfl,q1,h2⟩:=qp h2;obtain ⟨x2,r,rfl,q2,h2⟩:=qp h2;obtain ⟨x3,r,rfl,q3,h2⟩:=qp h2;obtain ⟨x4,r,rfl,q4,h2⟩:=qp h2;cases zf h2;obtain ⟨s,rfl⟩:=Ji q1;obtain ⟨u,rfl⟩:=Ji q2;obtain ⟨t,rfl,_⟩:=yy q3;obtain ⟨v,rfl,_⟩:=yy q4;exact .step
 ·obtain ⟨x,r,rfl,q1,h2⟩:=qp h2;obtain ⟨x2,r,rfl,q2,h2⟩:=qp h2;cases zf h2;obtain ⟨s,rfl⟩:=Ji q1;obtain ⟨t,rfl,_⟩:=yy q2;exact .hand
 ·obtain ⟨x,r,rfl,q,h2⟩:=qp h2;cases zf h2;rw [wD,Cc] at q;rcases q with q | q
  ·cases x with
   | none=>exact .none
   | _=>cases q
  ·obtain ⟨s,rfl⟩:=Ji q;exact .back
 ·obtain ⟨x,r,rfl,_,h2⟩:=qp h2;obtain ⟨x2,r,rfl,q2,h2⟩:=qp h2;cases zf h2;obtain ⟨s,rfl⟩:=Ji q2;exact .fault
theorem EndV.len {d:Aa} {rd wr st:List Nat} (h:EndV d rd wr st):rd.length≤5:=by
 cases h with
 | call hl=>
  rw [Bj];omega
 | _=>simp
structure StW (d:Aa):Prop where
 ex:∃ rows e cts,d= .tuple [.tuple rows,e,.tuple cts]∧rows.length≤1000∧cts.length≤20∧(∀ r∈rows,RowV r (zY r) (jP r))∧EndV e (zY e) (jP e) (JJ e)∧∀ c∈cts,∃ a b,∃ j:Nat,c= .tuple [a,b,.int (j:Nat)]
theorem qi8 (h:j3 ms n m d=true):∃ a b,∃ j:Nat,d= .tuple [a,b,.int (j:Nat)]:=by
 cases d with
 | tuple ds=>
  have h:qQ ms n m catchShapes ds=true:=h;obtain ⟨x,r,rfl,_,h2⟩:=qp h;obtain ⟨y,r,rfl,_,h3⟩:=qp h2;obtain ⟨z,r,rfl,q,h4⟩:=qp h3;cases zf h4;obtain ⟨j,rfl,_⟩:=yy q;exact ⟨x,y,j,rfl⟩
 | _=>cases h
theorem qfh (h:qY ms n m d=true):StW d:=by
 unfold qY at h;split at h
 ·simp only [Al,A4,A8] at h;obtain ⟨⟨⟨⟨h1,h2⟩,h3⟩,h4⟩,h5⟩:=h;exact ⟨_,_,_,rfl,h1,h2,fun r hr=>qh2 (h3 r hr),qi7 h4,fun c hc=>qi8 (h5 c hc)⟩
 ·cases h
def goesOf (wr st:List Nat) (s:Nat):List Nat:=if s∈wr then st.tail else st
theorem EndV.few {d:Aa} {rd wr st:List Nat} (h:EndV d rd wr st):(goesOf wr st s).length≤2:=by
 have h2:st.length≤2:=by cases h <;> simp
 unfold goesOf;split
 ·rw [List.length_tail];omega
 ·exact h2
end
section
variable {rows cts:List Aa} {row e:Aa} {q:Nat×Nat} {s t b:Nat}
theorem or_bit (a b i:Nat):(a||| b).testBit i=(a.testBit i||b.testBit i):=Dz ..
theorem bits_dec (l:List Nat) (s:Nat):(bitsL l).testBit s=decide (s∈l):=by
 rw [Bn,Xd,C1]
theorem Yo:(qE q row).1.testBit s=(q.1.testBit s||(decide (s∈zY row)&&!q.2.testBit s))∧(qE q row).2.testBit s=(q.2.testBit s||decide (s∈jP row)):=by
 unfold qE;rw [or_bit,or_bit,vp,bits_dec,bits_dec];exact ⟨rfl,rfl⟩
theorem yi:∀ {rows:List Aa} {q:Nat×Nat},q.1.testBit s=true→(rows.foldl qE q).1.testBit s=true
 | [],_,h=>h
 | r::rs,q,h=>yi (rows:=rs) (q:=qE q r) (by rw [Yo.1,h,Bool.true_or])
theorem Qq {j:Nat} (h:rows[j]?=some row):(rows.take (j+1)).foldl qE q=qE ((rows.take j).foldl qE q) row:=by
 rw [Bl,h,Eo];rfl
theorem ZV {j:Nat} (h:((rows.take j).foldl qE q).1.testBit s=true):(rows.foldl qE q).1.testBit s=true:=by
 rw [← List.take_append_drop j rows,Eo];exact yi h
theorem yN:(qW (.tuple [.tuple rows,e,.tuple cts])).1.testBit s=((rows.foldl qE (0,0)).1.testBit s||(decide (s∈zY e)&&!(rows.foldl qE (0,0)).2.testBit s)):=by
 show ((rows.foldl qE (0,0)).1||| dif (bitsL (zY e)) (rows.foldl qE (0,0)).2).testBit s=_
 rw [or_bit,vp,bits_dec]
theorem ZG (h:b.testBit s=false):t∈goesOf (jP e) (JJ e) s↔∃ w∈zG e b,w.1=t∧w.2.testBit s=false:=by
 unfold goesOf zG;have e0:(b||| bitsL (jP e)).testBit s=decide (s∈jP e):=by rw [or_bit,h,bits_dec,Dg]
 cases hs:JJ e with
 | nil=>
  simp
 | cons a r=>
  rw [List.mapIdx_cons,if_pos rfl];have er:(r.mapIdx fun i t=>(t,if i+1=0 then b||| bitsL (jP e) else b))=r.map fun t=>(t,b):=by
   refine List.ext_getElem? fun i=>?_;rw [List.getElem?_mapIdx,Au];cases r[i]? with
   | none=>rfl
   | some x=>rfl
  rw [er]
  by_cases hw:s∈jP e
  ·rw [if_pos hw,List.tail_cons];rw [Am hw] at e0;constructor
   ·intro ht;exact ⟨(t,b),Bg _ (A3.mpr ⟨t,ht,rfl⟩),rfl,h⟩
   ·rintro ⟨w,hm,rfl,hb⟩;rcases Av.mp hm with rfl | hm
    ·exact absurd (e0.symm.trans hb) O0
    ·obtain ⟨x,hx,rfl⟩:=A3.mp hm;exact hx
  ·rw [if_neg hw];rw [Ao hw] at e0;constructor
   ·intro ht;rcases Av.mp ht with rfl | ht
    ·exact ⟨_,Bi,rfl,e0⟩
    ·exact ⟨(t,b),Bg _ (A3.mpr ⟨t,ht,rfl⟩),rfl,h⟩
   ·rintro ⟨w,hm,rfl,hb⟩;rcases Av.mp hm with rfl | hm
    ·exact Bi
    ·obtain ⟨x,hx,rfl⟩:=A3.mp hm;exact Bg _ hx
theorem qd0 (h:b.testBit s=true):∀ w∈zG e b,w.2.testBit s=true:=fun w hw=>by
 unfold zG at hw;obtain ⟨i,hi,e⟩:=List.mem_mapIdx.mp hw;rw [← e];dsimp only;split
 ·rw [or_bit,h,Bool.true_or]
 ·exact h
def Jb (rows:List Aa) (e:Aa) (cts:List Aa) (s:Nat):List Nat:=cts.map qb4++if (rows.foldl qE (0,0)).2.testBit s=true then [] else goesOf (jP e) (JJ e) s
theorem X2:t∈Jb rows e cts s↔∃ w∈(qW (.tuple [.tuple rows,e,.tuple cts])).2,w.1=t∧w.2.testBit s=false:=by
 show _↔∃ w∈ctW cts++zG e (rows.foldl qE (0,0)).2,_;unfold Jb;rw [Az];constructor
 ·rintro (h | h)
  ·obtain ⟨c,hc,rfl⟩:=A3.mp h;exact ⟨(qb4 c,0),Az.mpr (.inl (A3.mpr ⟨c,hc,rfl⟩)),rfl,B4 _⟩
  ·split at h
   ·cases h
   ·rename_i hb;obtain ⟨w,hw,e1,e2⟩:=(ZG (Ci.mpr hb)).mp h;exact ⟨w,Az.mpr (.inr hw),e1,e2⟩
 ·rintro ⟨w,hw,rfl,hb⟩;rcases Az.mp hw with h | h
  ·obtain ⟨c,hc,rfl⟩:=A3.mp h;exact .inl (A3.mpr ⟨c,hc,rfl⟩)
  ·by_cases hq:(rows.foldl qE (0,0)).2.testBit s=true
   ·exact absurd ((qd0 hq w h).symm.trans hb) O0
   ·rw [if_neg hq];exact .inr ((ZG (Ci.mpr hq)).mpr ⟨w,h,rfl,hb⟩)
end
def UnW (ps:Psg) (s:Nat):Prop:=∃ k p,NotWr ps s k∧ps[k]?=some p∧p.1.testBit s=true
def Cld (ps:Psg) (s:Nat) (S:List Nat) (k:Nat):Prop:=∀ p,ps[k]?=some p→p.1.testBit s=false∧∀ w∈p.2,w.2.testBit s=false→w.1∈S
structure Sr (ps:Psg) (s:Nat) (S W:List Nat) (x:Option Nat):Prop where
 nd:S.Nodup
 z:0∈S
 nw:∀ k∈S,NotWr ps s k
 lt:∀ k∈S,k<ps.length
 sub:∀ k∈W,k∈S
 cl:∀ k∈S,k∈W∨x=some k∨Cld ps s S k
section
variable {ps:Psg} {s k t:Nat} {S W ts:List Nat} {x:Option Nat} {p:Nat×List (Nat×Nat)}
theorem qcq (h:0<ps.length):Sr ps s [0] [0] none:=⟨by simp,by simp,fun k hk=>by rw [Ay.mp hk];exact .zero,fun k hk=>by rw [Ay.mp hk];exact h,fun _ h=>h,fun _ h=> .inl h⟩
theorem Sr.done (h:Sr ps s S [] none):¬ UnW ps s:=by
 have all:∀ k,NotWr ps s k→k∈S:=fun k hk=>by
  induction hk with
  | zero=>exact h.z
  | step _ hp hw hb ih=>
   rcases h.cl _ ih with z | z | z
   ·cases z
   ·cases z
   ·exact (z _ hp).2 _ hw hb
 rintro ⟨k,p,hk,hp,hb⟩;rcases h.cl k (all k hk) with z | z | z
 ·cases z
 ·cases z
 ·exact absurd ((z p hp).1.symm.trans hb) O0
theorem Sr.pop (h:Sr ps s S (W++[k]) none):Sr ps s S W (some k):=⟨h.nd,h.z,h.nw,h.lt,fun j hj=>h.sub j (Az.mpr (.inl hj)),fun j hj=>by
 rcases h.cl j hj with z | z | z
 ·rcases Az.mp z with z | z
  ·exact .inl z
  ·rw [Ay.mp z];exact .inr (.inl rfl)
 ·cases z
 ·exact .inr (.inr z)⟩
theorem Sr.add (h:Sr ps s S W x) (hw:NotWr ps s t) (hl:t<ps.length) (hn:t∉S):Sr ps s (S++[t]) (W++[t]) x:=⟨En.mpr ⟨h.nd,by simp,fun a ha c hc=>by
  rw [Ay.mp hc];exact fun z=>hn (z▸ha)⟩,Az.mpr (.inl h.z),fun j hj=>by
 rcases Az.mp hj with z | z
 ·exact h.nw j z
 ·rw [Ay.mp z];exact hw,fun j hj=>by
 rcases Az.mp hj with z | z
 ·exact h.lt j z
 ·rw [Ay.mp z];exact hl,fun j hj=>by
 rcases Az.mp hj with z | z
 ·exact Az.mpr (.inl (h.sub j z))
 ·exact Az.mpr (.inr z),fun j hj=>by
 rcases Az.mp hj with z | z
 ·rcases h.cl j z with y | y | y
  ·exact .inl (Az.mpr (.inl y))
  ·exact .inr (.inl y)
  ·exact .inr (.inr fun p hp=>⟨(y p hp).1,fun w hw hb=>Az.mpr (.inl ((y p hp).2 w hw hb))⟩)
 ·exact .inl (Az.mpr (.inr z))⟩
theorem Sr.shut (h:Sr ps s S W (some k)) (hc:Cld ps s S k):Sr ps s S W none:=⟨h.nd,h.z,h.nw,h.lt,h.sub,fun j hj=>by
 rcases h.cl j hj with y | y | y
 ·exact .inl y
 ·cases y;exact .inr (.inr hc)
 ·exact .inr (.inr y)⟩
theorem Sr.len (h:Sr ps s S W x):S.length≤ps.length:=Grf.nodup_len ps.length S h.nd h.lt
end
theorem qfr:∀ h:Str,(rowHeads.any fun y=>y==h)=true→(forms.lookup h).isSome=true:=fun h e=>by
 obtain ⟨y,hy,z⟩:=Cd.mp e;rw [Bd] at z;subst z;simp only [rowHeads,Av,A7,or_false] at hy;rcases hy with rfl | rfl | rfl | rfl | rfl <;> decide+kernel
theorem qgv:∀ h:Str,(endHeads.any fun y=>y==h)=true→(forms.lookup h).isSome=true:=fun h e=>by
 obtain ⟨y,hy,z⟩:=Cd.mp e;rw [Bd] at z;subst z;simp only [endHeads,Av,A7,or_false] at hy;rcases hy with rfl | rfl | rfl | rfl | rfl | rfl | rfl | rfl <;> decide+kernel
structure Mw (d:Aa) (a b:Nat) (sts:List Aa):Prop where
 ex:∃ d0 d1 d2 d5 d6,d= .tuple [d0,d1,d2,.int (a:Nat),.int (b:Nat),d5,d6,.tuple sts]
 lt:a≤b
 b1:b≤1000
 l2:sts.length≤2000
 st:∀ x∈sts,StW x
 pok:Pok (sts.map qW) 1000
 rd:∀ x∈sts,Rd (fun s=>a≤s∧s<b) x
theorem qfs {A:Nat→Prop} {d:Aa} {s:Nat} (h:Rd A d) (hb:(qW d).1.testBit s=true):A s:=by
 obtain ⟨rows,e,cts,rfl,h1,h2⟩:=h;rw [yN,Cc] at hb;rcases hb with hb | hb
 ·rcases wf hb with z | ⟨r,hr,hs⟩
  ·rw [B4] at z;cases z
  ·exact h1 r hr s hs
 ·rw [Al,C1] at hb;exact h2 s hb.1
theorem Mw.rw {d:Aa} {a b:Nat} {sts:List Aa} (h:Mw d a b sts):Rw (sts.map qW)↔∀ s,a≤s→s<b→¬ UnW (sts.map qW) s:=by
 constructor
 ·rintro r s _ _ ⟨k,p,hk,hp,hb⟩;exact absurd ((r k s p hk hp).symm.trans hb) O0
 ·intro r k s p hk hp;rw [Ci];intro hb;have hp':=hp;rw [Au] at hp;obtain ⟨x,hx,rfl⟩:=C7.mp hp;have:=qfs (h.rd x (A0 hx)) hb;exact r s this.1 this.2 ⟨k,_,hk,hp',hb⟩
theorem Yg {ds:List Aa} (h:jU (.tuple ds)=true):∀ d∈ds,∃ a b sts,Mw d a b sts∧(rwB d=true↔Rw (sts.map qW)):=fun d hd=>by
 obtain ⟨ds',e,ck⟩:=qb9 h;cases e;obtain ⟨i,hi,e⟩:=Cf.mp hd;have hm:(ds.map jz)[i]?=some (jz d):=by rw [Au,Ah hi,e];rfl
 have okm:=ck.okm i _ hm;have inn:=ck.inn i _ hm;have back:d=(jz d).data:=by
  have z:=congrArg (fun l=>l[i]?) ck.back;rw [Au,hm,Ah hi,e] at z;exact Bh z
 rw [za,Al] at inn;have ist:=fun st hst=>A8.mp inn.2 st hst;have n0:=okm.n0;have n1:=okm.n1;have s1:=okm.s1;have ea:(jz d).names=(((jz d).names.toNat:Nat):Int):=(Cw n0).symm;have eb:(jz d).slots=(((jz d).slots.toNat:Nat):Int):=(Cw ⋯).symm;refine ⟨(jz d).names.toNat,(jz d).slots.toNat,(jz d).states,⟨⟨_,_,_,_,_,by rw [← ea,← eb];exact back⟩,⋯,⋯,okm.st2,fun x hx=>qfh (ist x hx),qao okm.st1 fun x hx=>Q2 qfr qgv okm.s1 (ist x hx),fun x hx=>qae ea eb (ist x hx)⟩,rwB_iff⟩
theorem Mw.uniq {d:Aa} {a b a' b':Nat} {sts sts':List Aa} (mw:Mw d a b sts) (mw':Mw d a' b' sts'):a=a'∧b=b'∧sts=sts':=by
 obtain ⟨_,_,_,_,_,rfl⟩:=mw.ex;obtain ⟨_,_,_,_,_,e'⟩:=mw'.ex;injection e' with e'
 injection e' with _ e'
 injection e' with _ e'
 injection e' with _ e'
 injection e' with e1 e'
 injection e' with e2 e'
 injection e' with _ e'
 injection e' with _ e'
 injection e' with e3 _
 injection e1 with e1
 injection e2 with e2
 injection e3 with e3
 exact ⟨⋯,⋯,e3⟩
def Wtn (d:Aa):Prop:=∀ a b sts,Mw d a b sts→∀ s,a≤s→s<b→¬ UnW (sts.map qW) s
theorem Mw.wtn {d:Aa} {a b:Nat} {sts:List Aa} (mw:Mw d a b sts):Wtn d↔∀ s,a≤s→s<b→¬ UnW (sts.map qW) s:=by
 constructor
 ·exact fun r=>r a b sts mw
 ·intro r a' b' sts' mw';obtain ⟨rfl,rfl,rfl⟩:=mw.uniq mw';exact r
theorem ZZ {ds:List Aa} (h:jU (.tuple ds)=true):jQ (.tuple ds)=true↔∀ d∈ds,Wtn d:=by
 have e:jQ (.tuple ds)=ds.all rwB:=by
  unfold jQ;rw [h,Be];rfl
 rw [e,A8];refine forall_congr' fun d=>forall_congr' fun hd=>?_;obtain ⟨a,b,sts,mw,hr⟩:=Yg h d hd;rw [hr,mw.rw,mw.wtn]
theorem yj:∀ {xs:List Aa},(∀ x∈xs,fit x=true)→vn xs=true
 | [],_=>rfl
 | x::xs,h=>by
  rw [vn,h x Bi,yj fun y hy=>h y (Bg _ hy)];rfl
theorem vv {xs:List Aa} (l:xs.length≤1000000) (h:∀ x∈xs,fit x=true):fit (.tuple xs)=true:=by
 rw [fit,Am l,yj h];rfl
theorem Ww {n:Int} {d:Aa} (h:qy n d=true):fit d=true:=by
 obtain ⟨i,rfl,_⟩:=qR h;rfl
theorem Yb {m:Mv} {d:Aa} (h:isMid m d=true):fit d=true:=by
 rw [isMid,Al] at h;exact Ww h.1
theorem Wv {w:Str} {x:Aa} (hw:fit (.str w)=true) (hx:fit x=true):fit (.tuple [.str w,x])=true:=vv (show 2≤1000000 from O0) fun y hy=>by
 simp only [Av,A7,or_false] at hy;rcases hy with rfl | rfl
 ·exact hw
 ·exact hx
theorem ZD {m:Mv} {d:Aa} (h:j8 m d=true):fit d=true:=by
 unfold j8 at h;split at h
 ·rename_i w x;split at h
  ·rename_i e;rw [Bd.mp e];exact Wv ∅ (by cases x <;> first | rfl | exact absurd h Ak)
  ·rw [Al] at h;rw [Bd.mp h.1];exact Wv ∅ (Ww h.2)
 ·exact absurd h Ak
theorem Qv {m:Mv} {d:Aa} (h:zP m d=true):fit d=true:=by
 unfold zP at h;split at h
 ·rename_i w x;split at h
  ·rename_i e;rw [Al] at h;rw [Bd.mp e];exact Wv ∅ (Ww h.1)
  ·exact ZD h
 ·exact absurd h Ak
theorem Y4 {d:Aa} (h:Tre.jm d=true):fit d=true:=by
 cases d with
 | str x=>
  have h:Tre.JH x=true:=h;rw [Tre.JH,Al,Al,A4,A4] at h;exact Am (show x.length≤1000000 from ⋯)
 | _=>exact absurd h Ak
theorem qbm {d:Aa} (h:V6 d=true):fit d=true:=by
 cases d with
 | str x=>
  obtain ⟨y,hy,e⟩:=Cd.mp h;rw [Bd] at e;subst e;exact (show ∀ y∈Tre.signs,fit (.str y)=true from ∅) y hy
 | _=>exact absurd h Ak
theorem Qu {ms:List Mv} {n:Nat} {m:Mv} {sh:Str} {d:Aa} (h:qJ ms n m sh d=true):fit d=true:=by
 unfold qJ at h;split at h
 ·exact Yb h
 ·split at h
  ·cases d with
   | tuple xs=>
    rw [jX,Al,A4] at h;exact vv ⋯ fun x hx=>Yb (A8.mp h.2 x hx)
   | _=>exact absurd h Ak
  ·split at h
   ·rw [Cc] at h;rcases h with h | h
    ·cases d <;> first | rfl | exact absurd h Ak
    ·exact Yb h
   ·split at h
    ·exact Qv h
    ·split at h
     ·exact Ww h
     ·split at h
      ·rw [Jm,Al] at h;exact Ww h.1
      ·split at h
       ·cases d <;> first | rfl | exact absurd h Ak
       ·split at h
        ·exact qbm h
        ·split at h
         ·exact Y4 h
         ·rw [Al] at h;exact Y4 h.1
theorem Wu {ms:List Mv} {n:Nat} {m:Mv} {shs:List Str} {ds:List Aa} (h:qQ ms n m shs ds=true):∀ x∈ds,fit x=true:=fun x hx=>by
 rw [qQ,Al,A4] at h;obtain ⟨i,hi,rfl⟩:=Cf.mp hx;have hz:(ds.zip shs)[i]?=some (ds[i],shs[i]'⋯):=Bo.mpr ⟨Ah hi,Ah ⋯⟩;exact Qu (A8.mp h.2 _ (A0 hz))
theorem Y5 {heads:List Str} {ms:List Mv} {n:Nat} {m:Mv} {d:Aa} (hh:∀ h∈heads,fit (.str h)=true∧(((forms.lookup h).getD []).length≤4)) (h:zw heads ms n m d=true):fit d=true:=by
 obtain ⟨z,ds,rfl⟩:=vj h;simp only [zw,Al] at h;obtain ⟨y,hy,e⟩:=Cd.mp h.1;rw [Bd] at e;subst e;have f:=Wu h.2;have l:=h.2;rw [qQ,Al,A4] at l;have l4:=(hh y hy).2;refine vv (by rw [Bj];omega) fun x hx=>?_
 rcases Av.mp hx with rfl | hx
 ·exact (hh y hy).1
 ·exact f x hx
theorem Qt {ms:List Mv} {n:Nat} {m:Mv} {d:Aa} (h:qY ms n m d=true):fit d=true∧noL d=true:=by
 unfold qY at h;split at h
 ·rename_i rows e cts;simp only [Al,A4,A8] at h;obtain ⟨⟨⟨⟨h1,h2⟩,h3⟩,h4⟩,h5⟩:=h;rw [jO,Al] at h4;have f1:fit (.tuple rows)=true:=vv ⋯ fun r hr=>Y5 ∅ (h3 r hr);have f2:fit e=true:=Y5 ∅ h4.1;have f3:fit (.tuple cts)=true:=vv ⋯ fun c hc=>by
   have hc':=h5 c hc;cases c with
   | tuple ds=>
    have hc':qQ ms n m catchShapes ds=true:=hc';have l:=hc';rw [qQ,Al,A4] at l;have l3:ds.length=3:=l.1;exact vv ⋯ (Wu hc')
   | _=>exact absurd hc' Ak
  refine ⟨vv (show 3≤1000000 from O0) fun x hx=>?_,?_⟩
  ·simp only [Av,A7,or_false] at hx;rcases hx with rfl | rfl | rfl
   ·exact f1
   ·exact f2
   ·exact f3
  ·have a:zB rows=true:=zE fun x hx=>VE (h3 x hx);have b:zB cts=true:=zE fun x hx=>W8 (h5 x hx);show (zB rows&&(Cod.noL e&&(zB cts&&true)))=true;rw [a,b,VE h4.1];rfl
 ·exact absurd h Ak
structure Cdx (ds:List Aa):Prop where
 code:jU (.tuple ds)=true
 fit:fit (.tuple ds)=true
 noL:noL (.tuple ds)=true
theorem qcc {ms:List Mv} (l1:1≤ms.length) (l2:ms.length≤300) (ok:∀ i m,ms[i]?=some m→Okm i m) (inn:∀ i m,ms[i]?=some m→za ms i m=true) (few:∀ m∈ms,m.boxed.length≤1000∧m.taken.length≤1000):Cdx (ms.map Mv.data):=by
 have one:∀ m∈ms,Cod.fit m.data=true∧Cod.noL m.data=true:=fun m hm=>by
  obtain ⟨i,hi,e⟩:=Cf.mp hm;have em:ms[i]?=some m:=by rw [Ah hi,e]
  have okm:=ok i m em;have hin:=inn i m em;have fw:=few m hm;rw [za,Al] at hin;have tk:∀ d∈m.taken,Cod.fit d=true∧Cod.noL d=true:=fun d hd=>by
   have h:=hin.1;split at h
   ·rw [List.isEmpty_iff.mp h] at hd;cases hd
   ·split at h
    ·split at h
     ·exact ⟨ZD (A8.mp h d hd),Zp (A8.mp h d hd)⟩
     ·cases h
    ·cases h
  have st:∀ d∈m.states,Cod.fit d=true∧Cod.noL d=true:=fun d hd=>Qt (A8.mp hin.2 d hd);have kd:Cod.fit (.str m.kind)=true:=by
   have h:=okm.kd;split at h
   ·rw [h.1];decide+kernel
   ·rcases h.1 with h | h <;> rw [h] <;> decide+kernel
  have ou:Cod.fit (Vl m.outer)=true∧Cod.noL (Vl m.outer)=true:=by
   cases m.outer <;> exact ⟨rfl,rfl⟩
  have st2:=okm.st2;constructor
  ·refine vv (show 8≤1000000 from O0) fun x hx=>?_;simp only [Av,A7,or_false] at hx;rcases hx with rfl | rfl | rfl | rfl | rfl | rfl | rfl | rfl
   ·exact kd
   ·exact ou.1
   ·rfl
   ·rfl
   ·rfl
   ·exact vv (by rw [Aj];omega) fun y hy=>by
     obtain ⟨z,_,rfl⟩:=A3.mp hy;rfl
   ·exact vv ⋯ fun y hy=>(tk y hy).1
   ·exact vv ⋯ fun y hy=>(st y hy).1
  ·show (true&&(Cod.noL (Vl m.outer)&&(true&&(true&&(true&&(zB (m.boxed.map .int)&&(zB m.taken&&(zB m.states&&true))))))))=true;rw [ou.2,zE (xs:=m.taken) fun y hy=>(tk y hy).2,zE (xs:=m.states) fun y hy=>(st y hy).2,zE (xs:=m.boxed.map PyData.int) fun y hy=>by
    obtain ⟨z,_,rfl⟩:=A3.mp hy;rfl]
   rfl
 exact ⟨qeg l1 l2 ok inn,vv (by rw [Aj];omega) fun x hx=>by
  obtain ⟨m,hm,rfl⟩:=A3.mp hx;exact (one m hm).1,zE fun x hx=>by
  obtain ⟨m,hm,rfl⟩:=A3.mp hx;exact (one m hm).2⟩
theorem QD {least:Nat} {whole:Bool} {hs:List Hd} {sts:List (List Aa)} (hl:least≤2) (l1:1≤hs.length) (l4:hs.length≤4) (el:sts.length=hs.length) (hok:∀ i h,hs[i]?=some h→HOk least hs i h) (hms:∀ i h ss,hs[i]?=some h→sts[i]?=some ss→MsOk least whole hs i h ss):Cdx ((vP hs sts).map Mv.data):=by
 have len:=yo el;refine qcc ⋯ ⋯ (fun i m e=>?_) (fun i m e=>?_) fun m hm=>?_
 ·obtain ⟨h,ss,eh,es,rfl⟩:=wc e;exact qf6 (hok i h eh) hl (hms i h ss eh es)
 ·obtain ⟨h,ss,eh,es,rfl⟩:=wc e;exact Y0 el (hok i h eh) (hms i h ss eh es) (A2.mp eh).1
 ·obtain ⟨i,hi,e⟩:=Cf.mp hm;obtain ⟨h,ss,eh,es,rfl⟩:=wc (i:=i) (m:=m) (by rw [Ah hi,e])
  have:=(hok i h eh).bn;have:=(hok i h eh).tk;exact ⟨by show (h.boxed.map _).length≤1000;rw [Aj];omega,by show h.taken.length≤1000;omega⟩
def qal (a:Nat):List Aa:=[.tuple [.str "back",.int ((a+1:Nat):Int)],.tuple [.str "fault",.str "kind",.int ((a+1:Nat):Int)],.tuple [.str "if",.int ((a+1:Nat):Int),.int 1,.int 1],.tuple [.str "back",.int (a:Int)],.tuple [.str "hand",.int ((a+1:Nat):Int),.int 1]]
def t0:Aa:= .tuple []
def VT:Aa:= .tuple [t0,.tuple [.str "back",.none],t0]
def Jj (a:Nat):Aa:= .tuple [.str "number",.int (a:Int),.int 0]
def VU (a:Nat):Aa:= .tuple [.str "number",.int ((a+1:Nat):Int),.int 1]
def Zd:Aa:= .tuple [.str "any",.tuple [.str "slot",.int 0],.int 2]
def Xw (n:Int):Aa:= .tuple [.str "go",.int n]
def J7 (ask:Aa):Aa:= .tuple [t0,ask,t0]
def yM (a:Nat) (ask:Aa):List (List Aa):=[
 [.tuple [.tuple [Jj a],.tuple [.str "step",.int ((a+1:Nat):Int),.int (a:Int),.int 1,.int 2],t0],VT,J7 ask],
 [.tuple [.tuple [Jj a],.tuple [.str "step",.int ((a+1:Nat):Int),.int (a:Int),.int 2,.int 1],t0],VT,J7 ask],
 [.tuple [.tuple [Jj a],.tuple [.str "call",.int ((a+1:Nat):Int),.int (a:Int),t0,.int 2],t0],VT,J7 ask],
 [.tuple [.tuple [Jj a],.tuple [.str "call",.int ((a+1:Nat):Int),.int (a:Int),t0,.int 1],.tuple [Zd]],VT,J7 ask],
 [.tuple [.tuple [Jj a,VU a],Xw 1,.tuple [Zd]],VT,J7 ask],
 [.tuple [.tuple [Jj a,VU a],Xw 1,t0],.tuple [t0,Xw 1,.tuple [Zd]],J7 ask],
 [.tuple [.tuple [Jj a],.tuple [.str "if",.int (a:Int),.int 1,.int 3],t0],.tuple [.tuple [VU a],Xw 2,t0],J7 ask,.tuple [t0,Xw 2,t0]],
 [.tuple [.tuple [Jj a],.tuple [.str "if",.int (a:Int),.int 1,.int 3],t0],.tuple [.tuple [VU a],Xw 2,t0],J7 ask,.tuple [.tuple [VU a],Xw 2,t0]]]
def ptM (a:Nat) (sts:List Aa):Mv:=⟨"main",none,0,(a:Nat),((a+3:Nat):Int),[],[],sts⟩
def qam (a:Nat):Bool:=(qal a).all fun ask=>(yM a ask).all fun sts=>decide (1≤sts.length)&&decide (sts.length≤4)&&sts.all (qY [ptM a sts] 0 (ptM a sts))
theorem qak:qam 1=true∧qam 2=true:=∅
theorem Zn {m:Mv} (ok:Okm 0 m) (inn:za [m] 0 m=true) (few:m.boxed.length≤1000∧m.taken.length≤1000):Cdx [m.data]:=qcc (ms:=[m]) (show 1≤1 from O0) (show 1≤300 from O0) (fun i m' e=>by
 cases i with
 | zero=>cases e;exact ok
 | succ i=>cases i <;> cases e) (fun i m' e=>by
 cases i with
 | zero=>cases e;exact inn
 | succ i=>cases i <;> cases e) fun m' h=>by
 rw [Ay.mp h];exact few
theorem qg3 {a:Nat} {ask:Aa} {sts:List Aa} (ha:a=1∨a=2) (h1:ask∈qal a) (h2:sts∈yM a ask):Cdx [(ptM a sts).data]:=by
 have h:qam a=true:=by
  rcases ha with rfl | rfl
  ·exact qak.1
  ·exact qak.2
 have h:=A8.mp (A8.mp h ask h1) sts h2;rw [Al,Al,A4,A4] at h;obtain ⟨⟨l1,l4⟩,hs⟩:=h;refine Zn ⟨⟨rfl,rfl⟩,?_,?_,?_,?_,?_,?_,fun b hb=>(by cases hb),rfl,l1,?_⟩ ?_ ⟨show 0≤1000 from O0,show 0≤1000 from O0⟩
 ·show ((a+3:Nat):Int)≤1000;omega
 ·show (0:Int)≤(a:Nat);omega
 ·show ((a:Nat):Int)≤((a+3:Nat):Int);omega
 ·show (0:Int)≤0;decide
 ·show (0:Int)≤(a:Nat);omega
 ·show (0:Int)≤4;decide
 ·show sts.length≤2000;omega
 ·rw [za,Al];exact ⟨rfl,hs⟩
def WS (k:Nat):Aa:= .tuple [t0,.tuple [.str "go",.int ((k+1:Nat):Int)],t0]
def wk:Aa:= .tuple [.str "number",.int 0,.int 7]
def lgS (n r:Nat):List Aa:=(.tuple [.tuple (List.replicate r wk),.tuple [.str "go",.int 1],t0])::((List.range' 1 n).map WS++[.tuple [t0,.tuple [.str "back",.int 0],t0]])
def lgM (n r:Nat):Mv:=⟨"main",none,0,0,1,[],[],lgS n r⟩
theorem XM (n r:Nat):(lgS n r).length=n+2:=by
 unfold lgS;rw [Bj,Ax,Aj,C0];rfl
theorem Zz {ms:List Mv} {m:Mv} {k:Nat} (h:k<m.states.length):jO ms 0 m (.tuple [.str "go",.int (k:Nat)])=true:=by
 have e:qy m.states.length (.int (k:Nat))=true:=by
  show (decide ((0:Int)≤(k:Nat))&&decide (((k:Nat):Int)<m.states.length))=true;rw [Am ⋯,Am ⋯];rfl
 unfold jO;show ((true&&(decide (1=1)&&(qy m.states.length (.int (k:Nat))&&true)))&&_)=true;rw [e];rfl
theorem qa7 {n r:Nat} (hn:n≤1900) (hr:r≤1) {ms:List Mv} {d:Aa} (hd:d∈lgS n r):qY ms 0 (lgM n r) d=true:=by
 have hl:(lgM n r).states.length=n+2:=XM n r;rcases Av.mp hd with rfl | hd
 ·show (decide ((List.replicate r wk).length≤1000)&&decide (0≤20)&&(List.replicate r wk).all (JV ms 0 (lgM n r))&&jO ms 0 (lgM n r) (.tuple [.str "go",.int ((1:Nat):Int)])&&true)=true;rw [Zz (k:=1) ⋯,Dy,Am ⋯,A8.mpr fun x hx=>?_]
  ·rfl
  ·rw [(List.mem_replicate.mp hx).2];rfl
 rcases Az.mp hd with hd | hd
 ·obtain ⟨k,hk,rfl⟩:=A3.mp hd;rw [List.mem_range'_1] at hk;show (decide (0≤1000)&&decide (0≤20)&&true&&jO ms 0 (lgM n r) (.tuple [.str "go",.int ((k+1:Nat):Int)])&&true)=true;rw [Zz ⋯];rfl
 ·rw [Ay.mp hd];rfl
theorem qcd {n r:Nat} (hn:n≤1900) (hr:r≤1):Cdx [(lgM n r).data]:=by
 have hl:(lgM n r).states.length=n+2:=XM n r;refine Zn ⟨⟨rfl,rfl⟩,by show (1:Int)≤1000;decide,by show (0:Int)≤0;decide,by show (0:Int)≤1;decide,by show (0:Int)≤0;decide,by show (0:Int)≤0;decide,by show (0:Int)≤4;decide,fun b hb=>(by cases hb),rfl,⋯,⋯⟩ ?_ ⟨show 0≤1000 from O0,show 0≤1000 from O0⟩
 rw [za,Al];exact ⟨rfl,A8.mpr fun d hd=>qa7 hn hr hd⟩
theorem qdp (r:Nat) (hr:r≤1):(qW (.tuple [.tuple (List.replicate r wk),.tuple [.str "go",.int 1],t0]))=(0,[(1,r)]):=by
 rcases (show r=0∨r=1 from ⋯) with rfl | rfl
 ·rfl
 ·rfl
theorem qir (k:Nat):qW (WS k)=(0,[(k+1,0)]):=by
 have h1:zY (.tuple [.str "go",.int ((k+1:Nat):Int)])=[]:=rfl;have h2:jP (.tuple [.str "go",.int ((k+1:Nat):Int)])=[]:=rfl;have h3:JJ (.tuple [.str "go",.int ((k+1:Nat):Int)])=[k+1]:=rfl;show ((0||| dif (bitsL (zY (.tuple [.str "go",.int ((k+1:Nat):Int)]))) 0,ctW []++zG (.tuple [.str "go",.int ((k+1:Nat):Int)]) 0):Nat×List (Nat×Nat))=_
 unfold zG;rw [h1,h2,h3];rfl
theorem qis {n r k:Nat} (h1:1≤k) (h2:k≤n):(lgS n r)[k]?=some (WS k):=by
 unfold lgS;obtain ⟨j,rfl⟩:∃ j,k=j+1:=⟨k - 1,⋯⟩;rw [List.getElem?_cons_succ,Br (by rw [Aj,C0];omega),Au,List.getElem?_range' ⋯]
 show some (WS (1+1*j))=_;rw [show 1+1*j=j+1 from ⋯]
theorem qge {n r:Nat}:(lgS n r)[n+1]?=some (.tuple [t0,.tuple [.str "back",.int 0],t0]):=by
 unfold lgS;rw [List.getElem?_cons_succ,Bz (by rw [Aj,C0];omega),Aj,C0,Da]
 rfl
theorem qa8 {n r:Nat} (hn:n≤1900) (hr:r≤1):jQ (.tuple [(lgM n r).data])=decide (r=1):=by
 have hc:=(qcd hn hr).code;obtain ⟨a,b,sts,mw,hrw⟩:=Yg hc _ Bi;have e:jQ (.tuple [(lgM n r).data])=rwB (lgM n r).data:=by
  unfold jQ;rw [hc,Be];show (rwB (lgM n r).data&&true)=_;rw [Et]
 have es:sts=lgS n r:=by
  obtain ⟨_,_,_,_,_,e'⟩:=mw.ex;injection e' with e'
  injection e' with _ e'
  injection e' with _ e'
  injection e' with _ e'
  injection e' with _ e'
  injection e' with _ e'
  injection e' with _ e'
  injection e' with _ e'
  injection e' with e3 _
  injection e3 with e3
  exact e3.symm
 subst es;rw [e,Bn,hrw,C1];have p0:((lgS n r).map qW)[0]?=some (0,[(1,r)]):=by
  rw [Au];exact congrArg some (qdp r hr)
 have pk:∀ k,1≤k→k≤n→((lgS n r).map qW)[k]?=some (0,[(k+1,0)]):=fun k h1 h2=>by
  rw [Au,qis h1 h2];exact congrArg some (qir k)
 have pe:((lgS n r).map qW)[n+1]?=some (1,[]):=by
  rw [Au,qge];rfl
 rcases (show r=0∨r=1 from ⋯) with rfl | rfl
 ·refine ⟨fun h=>?_,fun h=>by cases h⟩
  have all:∀ k,k≤n→NotWr ((lgS n 0).map qW) 0 (k+1):=fun k=>by
   induction k with
   | zero=>exact fun _=>NotWr.step .zero p0 Bi (B4 0)
   | succ k ih=>exact fun hk=>NotWr.step (ih ⋯) (pk (k+1) ⋯ hk) Bi (B4 0)
  exact absurd (h _ 0 _ (all n (An _)) pe) O0
 ·refine ⟨fun _=>rfl,fun _ k s p hk hp=>?_⟩;have only:∀ k,NotWr ((lgS n 1).map qW) 0 k→k=0:=fun k hk=>by
   induction hk with
   | zero=>rfl
   | step _ hp' hw' hb' ih=>
    subst ih;rw [p0] at hp';cases hp';rw [Ay.mp hw'] at hb';exact absurd hb' O0
  cases s with
  | zero=>
   cases only k hk;rw [p0] at hp;cases hp;rfl
  | succ s=>
   have hk2:k<n+2:=by
    have:=(A2.mp hp).1;rw [Aj,XM] at this;exact this
   rcases (show k=0∨(1≤k∧k≤n)∨k=n+1 from ⋯) with rfl | ⟨h1,h2⟩ | rfl
   ·rw [p0] at hp;cases hp;exact B4 _
   ·rw [pk k h1 h2] at hp;cases hp;exact B4 _
   ·rw [pe] at hp;cases hp;show Nat.testBit 1 (s+1)=false;rw [Nat.testBit_succ];exact B4 _
end Cod
namespace Mine
open PySem L2
def top (i:Nat):Stmt:=PySem.Challenge.pw_waitloom_k22_whole_written_ahead.main.body.getD i (.Pass ⟨0,0,0,0⟩)
abbrev vR:Stmt:=top 4
theorem Xs:FnScope ["thing"] ["thing"] (qh vR):=⟨rfl,rfl,rfl,∅,rfl,∅,∅⟩
abbrev vD:Stmt:=top 5
theorem yF:FnScope ["thing"] ["thing"] (qh vD):=⟨rfl,rfl,rfl,∅,rfl,∅,∅⟩
abbrev Vd:Stmt:=top 30
theorem Yt:FnScope ["thing"] ["thing"] (qh Vd):=⟨rfl,rfl,rfl,∅,rfl,∅,∅⟩
abbrev Vg:Stmt:=top 31
theorem Yx:FnScope ["thing","length"] ["thing","length"] (qh Vg):=⟨rfl,rfl,rfl,∅,rfl,∅,∅⟩
abbrev Ve:Stmt:=top 32
theorem Yu:FnScope ["thing","least","most"] ["thing","least","most"] (qh Ve):=⟨rfl,rfl,rfl,∅,rfl,∅,∅⟩
abbrev vF:Stmt:=top 33
theorem yH:FnScope ["thing","numbers"] ["thing","numbers"] (qh vF):=⟨rfl,rfl,rfl,∅,rfl,∅,∅⟩
abbrev VQ:Stmt:=top 34
theorem Xr:FnScope ["thing"] ["thing"] (qh VQ):=⟨rfl,rfl,rfl,∅,rfl,∅,∅⟩
abbrev Jq:Stmt:=top 35
theorem wv:FnScope ["thing","machine"] ["thing","machine"] (qh Jq):=⟨rfl,rfl,rfl,∅,rfl,∅,∅⟩
abbrev Vf:Stmt:=top 36
theorem Yw:FnScope ["thing","machine"] ["thing","machine"] (qh Vf):=⟨rfl,rfl,rfl,∅,rfl,∅,∅⟩
abbrev vE:Stmt:=top 37
theorem yG:FnScope ["thing","machine"] ["thing","machine"] (qh vE):=⟨rfl,rfl,rfl,∅,rfl,∅,∅⟩
abbrev JE:Stmt:=top 38
theorem Vt:FnScope ["thing","shape","code","number","machine"] ["thing","shape","code","number"] (qh JE):=⟨rfl,rfl,rfl,∅,rfl,∅,∅⟩
abbrev j2:Stmt:=top 39
theorem wU:FnScope ["things","shapes","code","number"] ["things","shapes","code","number"] (qh j2):=⟨rfl,rfl,rfl,∅,rfl,∅,∅⟩
abbrev Vi:Stmt:=top 40
theorem Yz:FnScope ["thing","heads","code","number"] ["thing","heads","code","number"] (qh Vi):=⟨rfl,rfl,rfl,∅,rfl,∅,∅⟩
abbrev wV:Stmt:=top 41
theorem Z3:FnScope ["thing","code","number"] ["thing","code","number"] (qh wV):=⟨rfl,rfl,rfl,∅,rfl,∅,∅⟩
abbrev wW:Stmt:=top 42
theorem Z4:FnScope ["thing","code","number"] ["thing","code","number"] (qh wW):=⟨rfl,rfl,rfl,∅,rfl,∅,∅⟩
abbrev Vh:Stmt:=top 43
theorem Yy:FnScope ["thing","code","number"] ["thing","code","number"] (qh Vh):=⟨rfl,rfl,rfl,∅,rfl,∅,∅⟩
abbrev Jp:Stmt:=top 44
theorem vC:FnScope ["thing","code","number","rows","catches"] ["thing","code","number"] (qh Jp):=⟨rfl,rfl,rfl,∅,rfl,∅,∅⟩
abbrev jh:Stmt:=top 45
theorem j6:FnScope ["machine","number","kind"] ["machine","number"] (qh jh):=⟨rfl,rfl,rfl,∅,rfl,∅,∅⟩
abbrev J5:Stmt:=top 46
theorem WL:FnScope ["machine"] ["machine"] (qh J5):=⟨rfl,rfl,rfl,∅,rfl,∅,∅⟩
abbrev j7:Stmt:=top 47
theorem yE:FnScope ["thing","length"] ["thing","length"] (qh j7):=⟨rfl,rfl,rfl,∅,rfl,∅,∅⟩
abbrev jS:Stmt:=top 48
theorem Vu:FnScope ["machine","number"] ["machine","number"] (qh jS):=⟨rfl,rfl,rfl,∅,rfl,∅,∅⟩
abbrev zM:Stmt:=top 49
theorem zS:FnScope ["code","number","machine","takes_well"] ["code","number"] (qh zM):=⟨rfl,rfl,rfl,∅,rfl,∅,∅⟩
abbrev JO:Stmt:=top 50
theorem Xt:FnScope ["thing"] ["thing"] (qh JO):=⟨rfl,rfl,rfl,∅,rfl,∅,∅⟩
abbrev VR:Stmt:=top 52
theorem JZ:FnScope ["slots","bits","slot"] ["slots"] (qh VR):=⟨rfl,rfl,rfl,∅,rfl,∅,∅⟩
abbrev J0:Stmt:=top 53
theorem jY:FnScope ["thing","found","one","shape"] ["thing"] (qh J0):=⟨rfl,rfl,rfl,∅,rfl,∅,∅⟩
abbrev jp:Stmt:=top 54
theorem VN:FnScope ["thing"] ["thing"] (qh jp):=⟨rfl,rfl,rfl,∅,rfl,∅,∅⟩
abbrev jC:Stmt:=top 55
theorem wu:FnScope ["end"] ["end"] (qh jC):=⟨rfl,rfl,rfl,∅,rfl,∅,∅⟩
abbrev Vx:Stmt:=y4 (top 56) 0
theorem WZ:FnScope ["self","state","row"] ["self","state"] (qh Vx):=⟨rfl,rfl,rfl,∅,rfl,∅,∅⟩
abbrev Jr:Stmt:=y4 (top 56) 1
theorem wx:FnScope ["self","slots"] ["self","slots"] (qh Jr):=⟨rfl,rfl,rfl,∅,rfl,∅,∅⟩
abbrev Vj:Stmt:=y4 (top 56) 2
theorem JD:FnScope ["self","end","told","place","number"] ["self","end"] (qh Vj):=⟨rfl,rfl,rfl,∅,rfl,∅,∅⟩
abbrev Jc:Stmt:=top 57
theorem qO:FnScope ["passages","ahead","changed","behind","number","target","brought","bits"] ["passages"] (qh Jc):=⟨rfl,rfl,rfl,∅,rfl,∅,∅⟩
abbrev jD:Stmt:=top 58
theorem JK:FnScope ["machine","passages","ahead"] ["machine"] (qh jD):=⟨rfl,rfl,rfl,∅,rfl,∅,∅⟩
abbrev J4:Stmt:=top 59
theorem Yv:FnScope ["thing"] ["thing"] (qh J4):=⟨rfl,rfl,rfl,∅,rfl,∅,∅⟩
abbrev Vc:Stmt:=top 61
theorem vB:FnScope ["_law_tape_here","_law_many","_law_cell"] ["_law_tape_here","_law_many"] (qh Vc):=⟨rfl,rfl,rfl,∅,rfl,∅,∅⟩
abbrev J1:Stmt:=top 62
theorem zD:FnScope ["_law_script","_law_tape_here","_law_letters","_law_size","_law_alike","_law_at","_law_first","_law_k","_law_sign"] ["_law_script"] (qh J1):=⟨rfl,rfl,rfl,∅,rfl,∅,∅⟩
abbrev jc:Stmt:=top 63
theorem jZ:FnScope ["_law_heads_here","_law_number","_law_names","_law_boxed","_law_found"] ["_law_heads_here","_law_number"] (qh jc):=⟨rfl,rfl,rfl,∅,rfl,∅,∅⟩
abbrev jy:Stmt:=top 64
theorem zg:FnScope ["_law_tape_here","_law_least","_law_heads_here","_law_number","_law_params","_law_names","_law_slots","_law_boxed","_law_taken","_law_some"] ["_law_tape_here","_law_least"] (qh jy):=⟨rfl,rfl,rfl,∅,rfl,∅,∅⟩
abbrev jE:Stmt:=top 65
theorem zx:FnScope ["_law_tape_here","_law_heads_here","_law_number","_law_names","_law_slots","_law_some","_law_places_here","_law_inner","_law_way","_law_place"] ["_law_tape_here","_law_heads_here","_law_number"] (qh jE):=⟨rfl,rfl,rfl,∅,rfl,∅,∅⟩
abbrev jF:Stmt:=top 66
theorem zQ:FnScope ["_law_tape_here","_law_heads_here","_law_number","_law_many","_law_names","_law_slots","_law_at","_law_way","_law_some"] ["_law_tape_here","_law_heads_here","_law_number","_law_many"] (qh jF):=⟨rfl,rfl,rfl,∅,rfl,∅,∅⟩
abbrev jR:Stmt:=top 67
theorem qP:FnScope ["_law_tape_here","_law_least","_law_whole","_law_heads_here","_law_code_here","_law_number","_law_head","_law_many","_law_places_here","_law_states","_law_k","_law_rows","_law_some","_law_catches","_law_j","_law_place"] ["_law_tape_here","_law_least","_law_whole"] (qh jR):=⟨rfl,rfl,rfl,∅,rfl,∅,∅⟩
abbrev Jd:Stmt:=top 68
theorem VO:FnScope ["_law_row"] ["_law_row"] (qh Jd):=⟨rfl,rfl,rfl,∅,rfl,∅,∅⟩
abbrev Je:Stmt:=top 69
theorem VP:FnScope ["_law_end"] ["_law_end"] (qh Je):=⟨rfl,rfl,rfl,∅,rfl,∅,∅⟩
abbrev Vb:Stmt:=top 70
theorem Ys:FnScope ["_law_end","_law_slot"] ["_law_end","_law_slot"] (qh Vb):=⟨rfl,rfl,rfl,∅,rfl,∅,∅⟩
abbrev jq:Stmt:=top 71
theorem qD:FnScope ["_law_states","_law_slot","_law_seen","_law_waiting","_law_rows","_law_end","_law_catches","_law_ways","_law_written","_law_row","_law_at"] ["_law_states","_law_slot"] (qh jq):=⟨rfl,rfl,rfl,∅,rfl,∅,∅⟩
abbrev jd:Stmt:=top 72
theorem JC:FnScope ["_law_code_here","_law_machine"] ["_law_code_here"] (qh jd):=⟨rfl,rfl,rfl,∅,rfl,∅,∅⟩
abbrev JL:Stmt:=top 73
theorem qU:FnScope ["_law_tape_here","_law_names","_law_w","_law_s","_law_asks","_law_last","_law_over","_law_first","_law_more","_law_caught","_law_some"] ["_law_tape_here"] (qh JL):=⟨rfl,rfl,rfl,∅,rfl,∅,∅⟩
abbrev J2:Stmt:=top 74
theorem JB:FnScope ["_law_tape_here","_law_many","_law_rows","_law_states"] ["_law_tape_here"] (qh J2):=⟨rfl,rfl,rfl,∅,rfl,∅,∅⟩
abbrev Vw:Stmt:=top 75
theorem Va:FnScope ["_law_script","_law_tape_here","_law_code_here","_law_found","_law_codes"] ["_law_script"] (qh Vw):=⟨rfl,rfl,rfl,∅,rfl,∅,∅⟩
structure Ad where
 Passage:Ac
structure Cs (K:Frag) (mg:Str→Option Ab) (ad:Ad):Prop where
 all_:mg "all"=none
 isinstance_:mg "isinstance"=none
 str_:mg "str"=none
 len_:mg "len"=none
 bool_:mg "bool"=none
 int_:mg "int"=none
 tuple_:mg "tuple"=none
 zip_:mg "zip"=none
 min_:mg "min"=none
 range_:mg "range"=none
 enumerate_:mg "enumerate"=none
 list_:mg "list"=none
 MOST_LETTERS:∃ u,mg "MOST_LETTERS"=some u∧qz (.int 8) u
 GREATEST_NUMBER:∃ u,mg "GREATEST_NUMBER"=some u∧qz (.int 1000000000000) u
 BOXED:∃ u,mg "BOXED"=some u∧qz (.int 5) u
 TAKEN:∃ u,mg "TAKEN"=some u∧qz (.int 6) u
 NAMES:∃ u,mg "NAMES"=some u∧qz (.int 3) u
 SLOTS:∃ u,mg "SLOTS"=some u∧qz (.int 4) u
 MOST_PARAMS:∃ u,mg "MOST_PARAMS"=some u∧qz (.int 4) u
 STATES:∃ u,mg "STATES"=some u∧qz (.int 7) u
 OUTER:∃ u,mg "OUTER"=some u∧qz (.int 1) u
 KIND:∃ u,mg "KIND"=some u∧qz (.int 0) u
 ROWS:∃ u,mg "ROWS"=some u∧qz (.int 0) u
 CATCHES:∃ u,mg "CATCHES"=some u∧qz (.int 2) u
 STATE_LENGTH:∃ u,mg "STATE_LENGTH"=some u∧qz (.int 3) u
 MOST_ROWS:∃ u,mg "MOST_ROWS"=some u∧qz (.int 1000) u
 MOST_CATCHES:∃ u,mg "MOST_CATCHES"=some u∧qz (.int 20) u
 END:∃ u,mg "END"=some u∧qz (.int 1) u
 PARAMS:∃ u,mg "PARAMS"=some u∧qz (.int 2) u
 MOST_SLOTS:∃ u,mg "MOST_SLOTS"=some u∧qz (.int 1000) u
 MACHINE_LENGTH:∃ u,mg "MACHINE_LENGTH"=some u∧qz (.int 8) u
 MOST_STATES:∃ u,mg "MOST_STATES"=some u∧qz (.int 2000) u
 MOST_MACHINES:∃ u,mg "MOST_MACHINES"=some u∧qz (.int 300) u
 m_Passage:mg "Passage"=some (.ref ad.Passage)
 cl:Cls K ad.Passage
 aN:PySem.W.findIn K (.ref ad.Passage) "needed"=some none
 aW:PySem.W.findIn K (.ref ad.Passage) "written"=some none
 aY:PySem.W.findIn K (.ref ad.Passage) "ways"=some none
 mkC:PySem.W.makesIn K ad.Passage=true
 kc:PySem.W.keepIn K (.ref ad.Passage)=true
structure Tb (P:Program) (w:World) (K:Frag) (mg:Str→Option Ab):Prop where
 SIGNS:∃ a,mg "SIGNS"=some (.ref a)∧∀ H:Hp,SqT K H a (Tre.signs.map V.str)
 ROW_HEADS:∃ a,mg "ROW_HEADS"=some (.ref a)∧∀ H:Hp,SqT K H a (Cod.rowHeads.map V.str)
 END_HEADS:∃ a,mg "END_HEADS"=some (.ref a)∧∀ H:Hp,SqT K H a (Cod.endHeads.map V.str)
 CODE_FORMS:KTabT P w K mg "CODE_FORMS" Cod.forms
 CATCH_SHAPES:∃ a,mg "CATCH_SHAPES"=some (.ref a)∧∀ H:Hp,SqT K H a (Cod.catchShapes.map V.str)
def spB (K:Frag) (f:Aa→Bool):Sp:=fun vs H Q _=>∃ x d,vs=[x]∧Rep K H x d∧Q (.bl (f d)) H
def spD (K:Frag) (f:Aa→Bool):Sp:=fun vs H Q _=>∃ x d,vs=[x]∧Rep K H x d∧Cod.fit d=true∧∀ H',qk H H'→Q (.bl (f d)) H'
def Yp (K:Frag):Sp:=fun vs H Q _=>∃ x d n,vs=[x,.int n]∧Rep K H x d∧Q (.bl (Cod.qy n d)) H
def ZY (K:Frag):Sp:=fun vs H Q _=>∃ x d lo hi,vs=[x,.int (lo:Nat),.int (hi:Nat)]∧Rep K H x d∧Q (.bl (Cod.isTup lo hi d)) H
def qet (K:Frag):Sp:=fun vs H Q _=>∃ x d y l,vs=[x,y]∧Rep K H x d∧Rep K H y (.tuple (l.map PyData.int))∧Q (.bl (Cod.Zv l d)) H
def spM (K:Frag) (f:Cod.Mv→Aa→Bool):Sp:=fun vs H Q _=>∃ x d y m,vs=[x,y]∧Rep K H x d∧Rep K H y (Cod.Mv.data m)∧Q (.bl (f m d)) H
theorem qe {H:Hp} {p:Ac} (h:H p=none) (o:HO):qk H (upd H p o):=fun b u q=>by rw [qo (qr q h)];exact q
theorem qit (c:Nat):(!decide (([c]:List Nat)<[97]))=decide (97≤c):=by
 rw [Bn];simp [List.cons_lt_cons_iff]
theorem le_z (c:Nat):(!decide (([122]:List Nat)<[c]))=decide (c≤122):=by
 rw [Bn];simp [List.cons_lt_cons_iff]
theorem vd {n:Nat} (h:n≤1000000):n≤Af:=As h O0
theorem v7 (a b:Str):decide (V.str a=V.str b)=(a==b):=by
 rw [Bn,A4,Bd];exact ⟨fun h=>V.str.inj h,fun h=>h▸rfl⟩
theorem qN {c:Bool} {A B:Prop} (h:c=true→A) (g:c=false→B):if c=true then A else B:=by
 cases c
 ·exact g rfl
 ·exact h rfl
theorem nf {b:Bool} (h:(!b)=false):b=true:=by cases b <;> first | rfl | cases h
theorem nt {b:Bool} (h:(!b)=true):b=false:=by cases b <;> first | rfl | cases h
section
variable {P:Program} {w:World} {K:Frag} {mg:Str→Option Ab} {base:Heap} {f:Ac} {fd:FuncData} {ad:Ad}
theorem ixr {x:V} {ds:List Aa} {i:Nat} {d:Aa} {H:Hp} {Q:VK} (r:Rep K H x (.tuple ds)) (h:ds[i]?=some d) (q:∀ v,Rep K H v d→Q v H):rIx K x (.int (i:Nat)) H Q:=by
 cases r with
 | @tup a xs _ hq hs=>
  have hl:=hs.length;obtain ⟨hi,_⟩:=A2.mp h;have hx:=Ah (l:=xs) (i:=i) ⋯;obtain ⟨d',hd,rv⟩:=hs.get hx;rw [h] at hd;cases hd;exact .inr (.inl ⟨_,_,(i:Nat),_,rfl,rfl,hq,zT hx,q _ rv⟩)
theorem y0 {x:V} {ds:List Aa} {H:Hp} (r:Rep K H x (.tuple ds)):qck K x H ds.length:=by
 cases r with
 | tup hq hs=>exact .inr ⟨_,hq,hs.length.symm⟩
theorem V7:∀ {xs:List V} {l:List Int} {H:Hp},Reps K H xs (l.map PyData.int)→xs=l.map V.int
 | _,[],_,.nil=>rfl
 | _,i::l,_,.cons (.int _) t=>by rw [V7 t];rfl
theorem wb (l:List Int):(l.map V.int).all vt=true:=by
 rw [Dj];exact A8.mpr fun _ _=>rfl
theorem in_ints (h:Int) (l:List Int):inV (.int h) (l.map V.int)=l.any fun y=>y==h:=by
 unfold inV;rw [Ev];rfl
theorem YK (F:Fun K "is_whole" "is_whole" Vd f fd) (c:Cs K mg ad):FnOk P w K mg base CX0 1 f fd ["thing"] (spB K Cod.y1):=by
 refine F.ok Yt (fun vs H Q E h=>?_) (fun cdv A outer s H vs Q E hr h=>?_)
 ·obtain ⟨x,d,rfl,_⟩:=h;rfl
 obtain ⟨x,d,rfl,hk,q⟩:=h;refine ⟨_,(qg (qm (zC (qt (jl (K:=K) rfl) (by rfl) c.isinstance_ qA (qa (pv 0) (qa (Jh c.int_ Yi) qb))) (zp (qas (qt (jl (K:=K) rfl) (by rfl) c.isinstance_ qA (qa (pv 0) (qa (Jh c.bool_ wL) qb)))))))),?_⟩
 refine ⟨_,rfl,x,d,"int",rfl,hk,O0,_,rfl,?_⟩;have hk2:=hk;cases hk with
 | bl b=>exact jk ⟨_,rfl,_,_,"bool",rfl,hk2,O0,_,rfl,q⟩
 | int i=>exact jk ⟨_,rfl,_,_,"bool",rfl,hk2,O0,_,rfl,q⟩
 | _=>exact JT q
theorem YQ (F:Fun K "is_index" "is_index" Vg f fd) (c:Cs K mg ad) (d_is_whole:Def P w K mg base 1 "is_whole" ["thing"] (spB K Cod.y1)):FnOk P w K mg base CX0 2 f fd ["thing","length"] (Yp K):=by
 refine F.ok Yx (fun vs H Q E h=>?_) (fun cdv A outer s H vs Q E hr h=>?_)
 ·obtain ⟨x,d,n,rfl,_⟩:=h;rfl
 obtain ⟨x,d,n,rfl,hk,q⟩:=h;refine ⟨_,(qg (qm (zC (pdf d_is_whole (qa (pv 0) qb)) (zp (Vy Wf wg qc (pv 0) (pv 1)))))),?_⟩;refine ⟨_,rfl,x,d,rfl,hk,_,rfl,?_⟩;cases hk with
 | int i=>
  refine jk ⟨_,rfl,_,_,rfl,rfl,_,rfl,qN (fun h=>⟨_,rfl,_,_,rfl,rfl,?_⟩) fun h=>?_⟩
  ·simp only [Cod.qy,h,Be] at q;exact q
  ·simp only [Cod.qy,h,Ba] at q;exact q
 | _=>exact JT q
theorem YL (F:Fun K "is_tuple" "is_tuple" Ve f fd) (c:Cs K mg ad):FnOk P w K mg base CX0 1 f fd ["thing","least","most"] (ZY K):=by
 refine F.ok Yu (fun vs H Q E h=>?_) (fun cdv A outer s H vs Q E hr h=>?_)
 ·obtain ⟨x,d,lo,hi,rfl,_⟩:=h;rfl
 obtain ⟨x,d,lo,hi,rfl,hk,q⟩:=h;refine ⟨_,(qg (qm (zC (qt (jl (K:=K) rfl) (by rfl) c.isinstance_ qA (qa (pv 0) (qa (Jh c.tuple_ zO) qb))) (zp (Vy Wf Wf (pv 1) (qt (jN (K:=K) rfl) (by rfl) c.len_ zR (qa (pv 0) qb)) (pv 2)))))),?_⟩
 refine ⟨_,rfl,x,d,"tuple",rfl,hk,O0,_,rfl,?_⟩;have hk2:=hk;cases hk with
 | @tup a xs ds hq hs=>
  refine jk ⟨_,rfl,_,rfl,_,_,rfl,y0 hk2,_,_,rfl,rfl,_,rfl,qN (fun h=>⟨_,rfl,_,_,rfl,rfl,?_⟩) fun h=>?_⟩
  ·have h':lo≤ds.length:=by have:=Co h;omega
   have e:Cod.isTup lo hi (.tuple ds)=decide (((ds.length:Nat):Int)≤(hi:Int)):=by
    simp only [Cod.isTup,Am h',Be];exact Ed.mpr ⋯
   rw [e] at q;exact q
  ·have h':¬ lo≤ds.length:=by have:=of_decide_eq_false h;omega
   have e:Cod.isTup lo hi (.tuple ds)=false:=by simp only [Cod.isTup,Ao h',Ba]
   rw [e] at q;exact q
 | _=>exact JT q
theorem yW (F:Fun K "is_member" "is_member" vF f fd) (c:Cs K mg ad) (d_is_whole:Def P w K mg base 1 "is_whole" ["thing"] (spB K Cod.y1)):FnOk P w K mg base CX0 2 f fd ["thing","numbers"] (qet K):=by
 refine F.ok yH (fun vs H Q E h=>?_) (fun cdv A outer s H vs Q E hr h=>?_)
 ·obtain ⟨x,d,y,l,rfl,_⟩:=h;rfl
 obtain ⟨x,d,y,l,rfl,hk,hy,q⟩:=h;refine ⟨_,(qg (qm (zC (pdf d_is_whole (qa (pv 0) qb)) (zp (zb (XQ (K:=K) rfl) (pv 0) (pv 1) rfl))))),?_⟩;refine ⟨_,rfl,x,d,rfl,hk,_,rfl,?_⟩;cases hk with
 | int i=>
  cases hy with
  | tup hq hs=>
   obtain rfl:=V7 hs;refine jk ⟨_,rfl,_,rfl,_,_,rfl,.inr hq,rfl,wb l,?_⟩;show Q (.bl (inV (.int i) (l.map V.int))) H;rw [in_ints];exact q
 | _=>exact JT q
theorem XA (F:Fun K "is_pair" "is_pair" VQ f fd) (c:Cs K mg ad) (d_is_tuple:Def P w K mg base 1 "is_tuple" ["thing","least","most"] (ZY K)):FnOk P w K mg base CX0 2 f fd ["thing"] (spB K Cod.Jg):=by
 refine F.ok Xr (fun vs H Q E h=>?_) (fun cdv A outer s H vs Q E hr h=>?_)
 ·obtain ⟨x,d,rfl,_⟩:=h;rfl
 obtain ⟨x,d,rfl,hk,q⟩:=h;refine ⟨_,(qg (qm (zC (pdf d_is_tuple (qa (pv 0) (qa qc (qa qc qb)))) (zp (qt (jl (K:=K) rfl) (by rfl) c.isinstance_ qA (qa (pix K (pv 0) qc) (qa (Jh c.str_ WE) qb))))))),?_⟩
 refine ⟨_,rfl,x,d,2,2,rfl,hk,_,rfl,qN (fun h=>?_) fun h=>?_⟩
 ·obtain ⟨a,b,rfl⟩:=Cod.qfa h;refine ⟨_,rfl,ixr (i:=0) hk rfl fun v rv=>⟨v,a,"str",rfl,rv,O0,?_⟩⟩;cases rv <;> exact q
 ·have e:Cod.Jg d=false:=Cod.qaw h;rw [e] at q;exact q
theorem wz (F:Fun K "is_far_place" "is_far_place" Jq f fd) (c:Cs K mg ad) (d_is_pair:Def P w K mg base 2 "is_pair" ["thing"] (spB K Cod.Jg)) (d_is_member:Def P w K mg base 2 "is_member" ["thing","numbers"] (qet K)) (d_is_index:Def P w K mg base 2 "is_index" ["thing","length"] (Yp K)):FnOk P w K mg base CX0 3 f fd ["thing","machine"] (spM K Cod.j8):=by
 refine F.ok wv (fun vs H Q E h=>?_) (fun cdv A outer s H vs Q E hr h=>?_)
 ·obtain ⟨x,d,y,m,rfl,_⟩:=h;rfl
 obtain ⟨x,d,y,m,rfl,hk,hy,q⟩:=h;refine ⟨_,(qf (qF (zo (zh (pdf d_is_pair (qa (pv 0) qb)))) (qg (qm zJ)) qv)
   (qf (qF (qu ze (pix K (pv 0) qc) qj (qq _)) (qg (qm (pdf d_is_member (qa (pix K (pv 0) qc) (qa (pix K (pv 1) (zA c.BOXED)) qb))))) qv)
   (qg (qm (zC (zb ze (pix K (pv 0) qc) qj (qq _)) (zp (pdf d_is_index (qa (pix K (pv 0) qc) (qa (qt (jN (K:=K) rfl) (by rfl) c.len_ zR (qa (pix K (pv 1) (zA c.TAKEN)) qb)) qb))))))))),?_⟩
 refine ⟨_,rfl,x,d,rfl,hk,_,rfl,qN (fun h=>?_) fun h=>?_⟩
 ·have e:Cod.j8 m d=false:=Cod.ZE (by simpa using h)
  rw [e] at q;exact q
 ·obtain ⟨z,b,rfl⟩:=Cod.Zj (by simpa using h)
  refine ⟨_,rfl,ixr (i:=0) hk rfl fun v rv=>?_⟩;cases rv;refine ⟨rfl,_,rfl,?_⟩;rw [v7];refine qN (fun h=>?_) fun h=>?_
  ·refine ⟨_,rfl,ixr (i:=1) hk rfl fun v rv=>⟨_,rfl,ixr (i:=5) hy rfl fun u ru=>⟨_,_,_,_,rfl,rv,ru,?_⟩⟩⟩;simp only [Cod.j8,h] at q;exact q
  ·refine ⟨_,rfl,ixr (i:=0) hk rfl fun v rv=>?_⟩;cases rv;refine ⟨rfl,_,rfl,?_⟩;rw [v7];simp only [Cod.j8,h] at q;refine qN (fun h2=>?_) fun h2=>?_
   ·refine ⟨_,rfl,ixr (i:=1) hk rfl fun v rv=>⟨_,rfl,ixr (i:=6) hy rfl fun u ru=>⟨_,_,rfl,y0 ru,_,_,_,rfl,rv,?_⟩⟩⟩;simp only [h2,Be] at q;exact q
   ·simp only [h2,Ba] at q;exact q
theorem YO (F:Fun K "is_place" "is_place" Vf f fd) (c:Cs K mg ad) (d_is_pair:Def P w K mg base 2 "is_pair" ["thing"] (spB K Cod.Jg)) (d_is_index:Def P w K mg base 2 "is_index" ["thing","length"] (Yp K)) (d_is_far_place:Def P w K mg base 3 "is_far_place" ["thing","machine"] (spM K Cod.j8)):FnOk P w K mg base CX0 4 f fd ["thing","machine"] (spM K Cod.zP):=by
 refine F.ok Yw (fun vs H Q E h=>?_) (fun cdv A outer s H vs Q E hr h=>?_)
 ·obtain ⟨x,d,y,m,rfl,_⟩:=h;rfl
 obtain ⟨x,d,y,m,rfl,hk,hy,q⟩:=h;refine ⟨_,(qf (qF (PW.pt (VS (zh (pdf d_is_pair (qa (pv 0) qb))) (vS (qu ze (pix K (pv 0) qc) qj (qq _))))) (qg (qm (zC (pdf d_is_index (qa (pix K (pv 0) qc) (qa (pix K (pv 1) (zA c.NAMES)) qb))) (zp (zb (qe2 (K:=K) rfl) (pix K (pv 0) qc) (pix K (pv 1) (zA c.BOXED)) rfl))))) qv)
   (qg (qm (pdf d_is_far_place (qa (pv 0) (qa (pv 1) qb)))))),?_⟩
 refine ⟨_,rfl,x,d,rfl,hk,_,rfl,qN (fun h=>?_) fun h=>?_⟩
 ·obtain ⟨z,b,rfl⟩:=Cod.Zj h;refine ⟨_,rfl,ixr (i:=0) hk rfl fun v rv=>?_⟩;cases rv;refine ⟨rfl,_,rfl,?_⟩;rw [v7];refine qN (fun h=>?_) fun h=>?_
  ·simp only [Cod.zP,h] at q;refine ⟨_,rfl,ixr (i:=1) hk rfl fun v rv=>⟨_,rfl,ixr (i:=3) hy rfl fun u ru=>?_⟩⟩;cases ru;refine ⟨_,_,_,rfl,rv,_,rfl,qN (fun h2=>?_) fun h2=>?_⟩
   ·obtain ⟨i,rfl,_⟩:=Cod.qR h2;refine ⟨_,rfl,ixr (i:=1) hk rfl fun v rv=>⟨_,rfl,ixr (i:=5) hy rfl fun u ru=>?_⟩⟩;cases rv;cases ru with
    | tup hq hs=>
     obtain rfl:=V7 hs;refine ⟨_,_,rfl,.inr hq,rfl,wb m.boxed,?_⟩;show Q (.bl (!inV (.int i) (m.boxed.map V.int))) H;rw [in_ints];simp only [h2,Be] at q;exact q
   ·simp only [h2,Ba] at q;exact q
  ·refine ⟨_,rfl,_,rfl,_,_,_,_,rfl,hk,hy,?_⟩;simp only [Cod.zP,h] at q;exact q
 ·refine ⟨_,rfl,_,rfl,_,_,_,_,rfl,hk,hy,?_⟩;rw [Cod.ZE h];rw [Cod.Z9 h] at q;exact q
theorem yV (F:Fun K "is_middle" "is_middle" vE f fd) (c:Cs K mg ad) (d_is_index:Def P w K mg base 2 "is_index" ["thing","length"] (Yp K)):FnOk P w K mg base CX0 3 f fd ["thing","machine"] (spM K Cod.isMid):=by
 refine F.ok yG (fun vs H Q E h=>?_) (fun cdv A outer s H vs Q E hr h=>?_)
 ·obtain ⟨x,d,y,m,rfl,_⟩:=h;rfl
 obtain ⟨x,d,y,m,rfl,hk,hy,q⟩:=h;refine ⟨_,(qg (qm (zC (pdf d_is_index (qa (pv 0) (qa (pix K (pv 1) (zA c.SLOTS)) qb))) (zp (zb qij (pv 0) (pix K (pv 1) (zA c.NAMES)) (qq _)))))),?_⟩;refine ⟨_,rfl,_,rfl,ixr (i:=4) hy rfl fun u ru=>?_⟩;cases ru;refine ⟨_,_,_,rfl,hk,_,rfl,qN (fun h=>?_) fun h=>?_⟩
 ·obtain ⟨i,rfl,_⟩:=Cod.qR h;cases hk;refine ⟨_,rfl,_,rfl,ixr (i:=3) hy rfl fun u ru=>?_⟩;cases ru;refine ⟨_,_,rfl,rfl,?_⟩;simp only [Cod.isMid,h,Be] at q;exact q
 ·simp only [Cod.isMid,h,Ba] at q;exact q
theorem XB (F:Fun K "is_name" "is_name" vR f fd) (c:Cs K mg ad):FnOk P w K mg base CX0 1 f fd ["thing"] (spD K Tre.jm):=by
 refine F.ok Xs (fun vs H Q E h=>?_) (fun cdv A outer s H vs Q E hr h=>?_)
 ·obtain ⟨x,d,rfl,_⟩:=h;rfl
 obtain ⟨x,d,rfl,hk,ft,q⟩:=h;refine ⟨_,(qf (qF (PW.pt (JQ (zo (zh (qt (jl (K:=K) rfl) (by rfl) c.isinstance_ qA (qa (pv 0) (qa (Jh c.str_ WE) qb))))) (Jf (zo (qaj Wf Wf qc (qt (jN (K:=K) rfl) (by rfl) c.len_ zR (qa (pv 0) qb)) (zA c.MOST_LETTERS)))))) (qg (qm zJ)) qv)
   (qg (qm (qt (JY (K:=K) rfl rfl) (by rfl) c.all_ jW (qa (qX (sc:=qh vR) (NX:=["thing"]) (N:=["letter"]) (js:=[none]) (Jx (K:=K) rfl (pv 0)) (fun _ _ _ _ _=>(qx (i:=0) (show (["letter"]:List Str).Nodup from ∅) rfl (Or.inl rfl))) (fun _ _ _ _ _=>zn) (fun _ _ _ _ _=>(Vy W7 W7 qj (pv 0) qj)) (qB rfl) ⟨∅,rfl,∅,∅,rfl,∅⟩) qb))))),?_⟩
 refine ⟨_,rfl,x,d,"str",rfl,hk,O0,?_⟩;cases hk with
 | str x=>
  refine ⟨_,rfl,JT ?_⟩;have hx:x.length≤Af:=vd (by simpa [Cod.fit] using ft)
  refine ⟨_,rfl,_,_,rfl,⟨hx,rfl⟩,_,_,rfl,rfl,_,rfl,?_⟩;have hl:x.length=x.cps.toList.length:=by simp [Str.length]
  refine qiu (fun c1=>?_) (fun c1=>?_)
  ·have c1':(1:Int)≤(x.length:Int):=Co c1;refine ⟨_,_,rfl,rfl,_,rfl,?_⟩;refine qiu (fun c2=>?_) (fun c2=>?_)
   ·have c2':¬ ((x.length:Int)≤8):=by simpa using c2
    have e:Tre.jm (.str x)=false:=by
     simp only [Tre.jm,Tre.JH];rw [Ao (show ¬ x.length≤8 from ⋯)];simp
    have q':=q H (qk.refl _);rw [e] at q';exact q'
   ·have c2':(x.length:Int)≤8:=by simpa using c2
    have hsz:x.cps.size=x.cps.toList.length:=by simp
    refine ⟨_,rfl,.inr (.inr ⟨x,rfl,zd x.cps.size (fun i ys H'=>H'=H∧ys=(x.cps.toList.take i).map fun c=>V.bl (decide (97≤c)&&decide (c≤122))) ⟨rfl,rfl⟩ (fun i ys H' h=>?_) (by rw [hsz,← hl];exact hx) (fun i ys H' hi h=>?_) (fun ys H' h=>?_)⟩)⟩
    ·obtain ⟨_,rfl⟩:=h;rw [Aj];exact Bw _ _
    ·obtain ⟨rfl,rfl⟩:=h;refine ⟨hi,fun v H2 hy=>?_⟩;obtain ⟨rfl,cc,hcc,rfl⟩:=hy;have step:(x.cps.toList.take (i+1)).map (fun c=>V.bl (decide (97≤c)&&decide (c≤122)))=(x.cps.toList.take i).map (fun c=>V.bl (decide (97≤c)&&decide (c≤122)))++[V.bl (decide (97≤cc)&&decide (cc≤122))]:=by
      have hcc':x.cps.toList[i]?=some cc:=by simpa using hcc
      rw [Bl,hcc',A6];rfl
     refine ⟨_,rfl,_,_,rfl,rfl,_,rfl,?_⟩
     by_cases ha:97≤cc
     ·refine jx ((qit cc).trans (Am ha)) ⟨_,_,rfl,rfl,rfl,?_⟩;rw [step,Am ha,Be];exact congrArg (fun b=>_++[V.bl b]) (le_z cc)
     ·refine jo ((qit cc).trans (Ao ha)) ⟨rfl,?_⟩;rw [step,Ao ha,Ba]
    ·obtain ⟨rfl,rfl⟩:=h;refine ⟨An _,fun D hD=>⟨D,x.cps.toList.map fun c=>decide (97≤c)&&decide (c≤122),rfl,SqL.of (by rw [upd_same,hsz,Bp,Bm];rfl),?_⟩⟩
     have e:Tre.jm (.str x)=(x.cps.toList.map fun c=>decide (97≤c)&&decide (c≤122)).all id:=by
      simp only [Tre.jm,Tre.JH];rw [Am (show 1≤x.length from ⋯),Am (show x.length≤8 from ⋯),Dj];rfl
     rw [← e];exact q _ (qe hD _)
  ·have c1':¬ (1:Int)≤(x.length:Int):=of_decide_eq_false (Ci.mpr c1);refine ⟨_,rfl,jk ?_⟩;have e:Tre.jm (.str x)=false:=by
    simp only [Tre.jm,Tre.JH];rw [Ao (show ¬ 1≤x.length from ⋯)];simp
   have q':=q H (qk.refl _);rw [e] at q';exact q'
 | _=>exact ⟨_,rfl,jk (jk (q H (qk.refl _)))⟩
theorem yU (F:Fun K "is_number" "is_number" vD f fd) (c:Cs K mg ad):FnOk P w K mg base CX0 1 f fd ["thing"] (spD K Tre.Jt):=by
 refine F.ok yF (fun vs H Q E h=>?_) (fun cdv A outer s H vs Q E hr h=>?_)
 ·obtain ⟨x,d,rfl,_⟩:=h;rfl
 obtain ⟨x,d,rfl,hk,ft,q⟩:=h;refine ⟨_,(qf (qF (PW.pt (JQ (zo (zh (qt (jl (K:=K) rfl) (by rfl) c.isinstance_ qA (qa (pv 0) (qa (Jh c.int_ Yi) qb))))) (Jf (zh (qt (jl (K:=K) rfl) (by rfl) c.isinstance_ qA (qa (pv 0) (qa (Jh c.bool_ wL) qb))))))) (qg (qm zJ)) qv)
   (qg (qm (Vy Wf Wf (Zf QJ (zA c.GREATEST_NUMBER)) (pv 0) (zA c.GREATEST_NUMBER))))),?_⟩
 have q0:=q H (qk.refl _);refine ⟨_,rfl,x,d,"int",rfl,hk,O0,?_⟩;have hk2:=hk;cases hk with
 | bl b=>exact ⟨_,rfl,_,rfl,_,_,"bool",rfl,hk2,O0,_,rfl,q0⟩
 | int i=>
  refine ⟨_,rfl,_,rfl,_,_,"bool",rfl,hk2,O0,_,rfl,?_⟩;refine ⟨_,rfl,_,rfl,_,_,rfl,rfl,_,rfl,?_⟩
  by_cases h:(-1000000000000:Int)≤i
  ·refine jx (Am h) ⟨_,_,rfl,rfl,?_⟩;simp only [Tre.Jt,Tre.XE,Am h,Be] at q0;exact q0
  ·refine jo (Ao h) ?_;simp only [Tre.Jt,Tre.XE,Ao h,Ba] at q0;exact q0
 | _=>exact ⟨_,rfl,q0⟩
theorem ym {a:Ac} {js:List (Option Nat)} {k:Nat} {te:TE} {σ:St} {H:Hp} {Q:VK} {xs:List V} {ds:List Aa} (hq:SqT K H a xs) (hr:Reps K H xs ds) (fv:Aa→V) (hz:ds.length≤Af)
  (step:∀ (x:V) (d:Aa) (H':Hp) (R:VK),qk H H'→d∈ds→Rep K H' x d→(∀ H5,qk H' H5→R (fv d) H5)→te ((zm js σ).set k (some x)) H' R)
  (fin:∀ (H':Hp) (D:Ac),qk H H'→H' D=none→Q (.ref D) (upd H' D (.lst (ds.map fv)))):zK (Itt K a) js (qC k) Jw te σ H Q:=by
 have hlen:=hr.length;refine zd ds.length (fun i ys H'=>qk H H'∧ys=(ds.take i).map fv) ⟨qk.refl _,rfl⟩ (fun i ys H' h=>?_) hz (fun i ys H' hi h=>?_) (fun ys H' h=>?_)
 ·rw [h.2,Aj];exact Bw _ _
 ·obtain ⟨g,rfl⟩:=h;have hx:xs[i]?=some xs[i]:=Ah ⋯;refine ⟨⟨xs,xs[i],g.sqT hq,hx⟩,fun v H2 hy=>?_⟩;obtain ⟨rfl,hv⟩:=hy;have e:=(hx.symm.trans (hv xs (g.sqT hq)));cases e;obtain ⟨d,hd,rd⟩:=hr.get hx;show te ((zm js σ).set k (some xs[i])) H2 (fun y H5=>qk H H5∧(ds.take i).map fv++[y]=(ds.take (i+1)).map fv);refine step _ d _ _ g (A0 hd) (rd.same g) fun H5 g5=>⟨g.trans g5,?_⟩;rw [Bl,hd,A6];rfl
 ·obtain ⟨g,rfl⟩:=h;refine ⟨⟨xs,g.sqT hq,⋯⟩,fun D hD=>?_⟩;rw [Bp];exact fin H' D g hD
theorem qg1 (y:V) (ys:List V):JX (y::ys) (some 1) none=ys:=by
 unfold JX;have e:HT.sIx (y::ys).length 0 (some 1)=1:=by
  show HT.sIx (y::ys).length 0 (some ((1:Nat):Int))=1;rw [HT.sIx_nat];simp
 rw [e,HT.sIx_none];simp
theorem ZK (y:V) (ys:List V):¬ (HT.sIx (y::ys).length 0 (some 1)=0∧HT.sIx (y::ys).length (y::ys).length none=(y::ys).length):=by
 have e:HT.sIx (y::ys).length 0 (some 1)=1:=by
  show HT.sIx (y::ys).length 0 (some ((1:Nat):Int))=1;rw [HT.sIx_nat];simp
 rw [e];omega
theorem Qs (l:List Str):(l.map V.str).all vt=true:=by
 rw [Dj];exact A8.mpr fun _ _=>rfl
theorem qdv (h:Str) (l:List Str):inV (.str h) (l.map V.str)=l.any fun y=>y==h:=by
 unfold inV;rw [Ev];rfl
theorem Qz {a b:Ac} {js:List (Option Nat)} {te:TE} {σ:St} {H:Hp} {Q:VK} {xs:List V} {ds:List Aa} {fs:List Str} (hq:SqT K H a xs) (hr:Reps K H xs ds) (hq2:SqT K H b (fs.map V.str)) (hl:ds.length=fs.length) (hz:ds.length≤Af) (fv:Aa→Str→V)
  (step:∀ (x:V) (d:Aa) (sh:Str) (H':Hp) (R:VK),qk H H'→(d,sh)∈ds.zip fs→Rep K H' x d→(∀ H5,qk H' H5→R (fv d sh) H5)→te (((zm js σ).set 0 (some x)).set 1 (some (.str sh))) H' R)
  (fin:∀ (H':Hp) (D:Ac),qk H H'→H' D=none→Q (.ref D) (upd H' D (.lst ((ds.zip fs).map fun p=>fv p.1 p.2)))):zK (Itz K a b) js (Y3 K 2 (JW (qC 0) (JW (qC 1) XT))) Jw te σ H Q:=by
 have hlen:=hr.length;have hzip:(ds.zip fs).length=ds.length:=by rw [Cg];omega
 refine zd ds.length (fun i ys H'=>qk H H'∧ys=((ds.zip fs).take i).map fun p=>fv p.1 p.2) ⟨qk.refl _,rfl⟩ (fun i ys H' h=>?_) hz (fun i ys H' hi h=>?_) (fun ys H' h=>?_)
 ·rw [h.2,Aj];exact Bw _ _
 ·obtain ⟨g,rfl⟩:=h;have hx:xs[i]?=some xs[i]:=Ah ⋯;have hf:fs[i]?=some fs[i]:=Ah ⋯;have hy:(fs.map V.str)[i]?=some (.str fs[i]):=by rw [Au,hf];rfl
  refine ⟨⟨xs,_,_,_,g.sqT hq,g.sqT hq2,hx,hy⟩,fun v H2 yl=>?_⟩;obtain ⟨p,x,y,hp,rfl,e1,e2,rfl⟩:=yl;have e3:=hx.symm.trans (e1 xs (g.sqT hq));cases e3;have e4:=hy.symm.trans (e2 _ (g.sqT hq2));cases e4;obtain ⟨d,hd,rd⟩:=hr.get hx;have g2:=g.trans (qe hp (.tup [xs[i],.str fs[i]]));have hm:(ds.zip fs)[i]?=some (d,fs[i]):=Bo.mpr ⟨hd,hf⟩;refine ⟨p,_,rfl,SqT.of upd_same,rfl,_,_,rfl,_,_,rfl,rfl,?_⟩;show te (((zm js σ).set 0 (some xs[i])).set 1 (some (.str fs[i]))) _ (fun z H5=>qk H H5∧((ds.zip fs).take i).map (fun p=>fv p.1 p.2)++[z]=((ds.zip fs).take (i+1)).map fun p=>fv p.1 p.2);refine step _ d _ _ _ g2 (A0 hm) (rd.same g2) fun H5 g5=>⟨g2.trans g5,?_⟩;rw [Bl,hm,A6];rfl
 ·obtain ⟨g,rfl⟩:=h;refine ⟨⟨xs,_,g.sqT hq,g.sqT hq2,.inl ⋯⟩,fun D hD=>?_⟩;rw [← hzip,Bp];exact fin H' D g hD
theorem wN {x:V} {ds:List Aa} {js:List (Option Nat)} {te:TE} {σ:St} {H:Hp} {Q:VK} (r:Rep K H x (.tuple ds)) (g:Aa→Bool) (hz:ds.length≤1000000)
  (step:∀ (x:V) (d:Aa) (H':Hp) (R:VK),qk H H'→d∈ds→Rep K H' x d→(∀ H5,qk H' H5→R (.bl (g d)) H5)→te ((zm js σ).set 0 (some x)) H' R)
  (fin:∀ H',qk H H'→Q (.bl (ds.all g)) H'):y6 K (fun _ H R=>R x H) σ H fun it H1=>zK it js (qC 0) Jw te σ H1 fun v H2=>∃ (a:Ac) (bs:List Bool),[v]=[.ref a]∧SqL K H2 a (bs.map V.bl)∧Q (.bl (bs.all id)) H2:=by
 cases r with
 | tup hq hs=>
  refine .inr (.inl ⟨_,rfl,⟨_,hq⟩,ym hq hs (fun d=>V.bl (g d)) (vd hz) step fun H' D gg hD=>?_⟩);refine ⟨D,ds.map g,rfl,SqL.of (by rw [upd_same,Bm];rfl),?_⟩
  rw [Dj];exact fin _ (gg.trans (qe hD _))
theorem X0 {ds:List Aa} {g:Aa→Bool}:(ds.map g).all id=ds.all g:=by
 rw [Dj];rfl
theorem WG {x:V} {ds:List Aa} {js:List (Option Nat)} {te:TE} {σ:St} {H:Hp} {Q:VK} (r:Rep K H x (.tuple ds)) (g:Aa→Bool) (hz:ds.length≤1000000)
  (step:∀ (x:V) (d:Aa) (H':Hp) (R:VK),qk H H'→d∈ds→Rep K H' x d→(∀ H5,qk H' H5→R (.bl (g d)) H5)→te ((zm js σ).set 0 (some x)) H' R)
  (fin:∀ H' D,qk H H'→SqL K H' D ((ds.map g).map V.bl)→Q (.ref D) H'):y6 K (fun _ H R=>R x H) σ H fun it H1=>zK it js (qC 0) Jw te σ H1 Q:=by
 cases r with
 | tup hq hs=>
  refine .inr (.inl ⟨_,rfl,⟨_,hq⟩,ym hq hs (fun d=>V.bl (g d)) (vd hz) step fun H' D gg hD=>?_⟩);exact fin _ D (gg.trans (qe hD _)) (SqL.of (by rw [upd_same,Bm];rfl))
theorem qek {x:V} {ds:List Aa} {fs:List Str} {b:Ac} {js:List (Option Nat)} {te:TE} {σ:St} {H:Hp} {Q:VK} (r:Rep K H x (.tuple ds)) (hb:SqT K H b (fs.map V.str)) (g:Aa→Str→Bool) (hl:ds.length=fs.length) (hz:ds.length≤1000000)
  (step:∀ (x:V) (d:Aa) (sh:Str) (H':Hp) (R:VK),qk H H'→d∈ds→Rep K H' x d→(∀ H5,qk H' H5→R (.bl (g d sh)) H5)→te (((zm js σ).set 0 (some x)).set 1 (some (.str sh))) H' R)
  (fin:∀ H',qk H H'→Q (.bl ((ds.zip fs).all fun p=>g p.1 p.2)) H'):∃ a b',[x,V.ref b]=[.ref a,.ref b']∧(∃ xs,SqT K H a xs)∧(∃ ys,SqT K H b' ys)∧zK (Itz K a b') js (Y3 K 2 (JW (qC 0) (JW (qC 1) XT))) Jw te σ H fun v H2=>∃ (a:Ac) (bs:List Bool),[v]=[.ref a]∧SqL K H2 a (bs.map V.bl)∧Q (.bl (bs.all id)) H2:=by
 cases r with
 | tup hq hs=>
  refine ⟨_,_,rfl,⟨_,hq⟩,⟨_,hb⟩,Qz hq hs hb hl (vd hz) (fun d sh=>V.bl (g d sh)) (fun x d sh H' R gg hd rd hR=>step x d sh H' R gg (Eg hd).1 rd hR) fun H' D gg hD=>?_⟩;refine ⟨D,(ds.zip fs).map fun p=>g p.1 p.2,rfl,SqL.of (by rw [upd_same,Bm];rfl),?_⟩
  rw [Dj];exact fin _ (gg.trans (qe hD _))
def qho (K:Frag):Sp:=fun vs H Q _=>∃ x d sh y ms n m,vs=[x,.str sh,y,.int (n:Nat)]∧Rep K H x d∧Cod.fit d=true∧Rep K H y (.tuple (ms.map Cod.Mv.data))∧ms[n]?=some m∧∀ H',qk H H'→Q (.bl (Cod.qJ ms n m sh d)) H'
theorem yX (F:Fun K "has_shape" "has_shape" JE f fd) (c:Cs K mg ad) (T:Tb P w K mg) (d_is_name:Def P w K mg base 1 "is_name" ["thing"] (spD K Tre.jm)) (d_is_number:Def P w K mg base 1 "is_number" ["thing"] (spD K Tre.Jt)) (d_is_tuple:Def P w K mg base 1 "is_tuple" ["thing","least","most"] (ZY K)) (d_is_index:Def P w K mg base 2 "is_index" ["thing","length"] (Yp K)) (d_is_place:Def P w K mg base 4 "is_place" ["thing","machine"] (spM K Cod.zP)) (d_is_middle:Def P w K mg base 3 "is_middle" ["thing","machine"] (spM K Cod.isMid)):FnOk P w K mg base CX0 5 f fd ["thing","shape","code","number"] (qho K):=by
 refine F.ok Vt (fun vs H Q E h=>?_) (fun cdv A outer s H vs Q E hr h=>?_)
 ·obtain ⟨x,d,sh,y,ms,n,m,rfl,_⟩:=h;rfl
 obtain ⟨x,d,sh,y,ms,n,m,rfl,hk,ft,hy,hm,q⟩:=h;refine ⟨_,(qf (pst 4 Vt.nd (pix K (pv 2) (pv 3)))
   (qf (qF (qu (XQ (K:=K) rfl) (pv 1) (qi (qa qj (qa qj qb))) rfl) (qg (qm (pdf d_is_middle (qa (pv 0) (qa (pv 4) qb))))) qv)
   (qf (qF (qu ze (pv 1) qj (qq _)) (qg (qm (zC (pdf d_is_tuple (qa (pv 0) (qa qc (qa (zA c.MOST_PARAMS) qb)))) (zp (qt (JY (K:=K) rfl rfl) (by rfl) c.all_ jW (qa (qX (sc:=qh JE) (NX:=["thing","shape","code","number","machine"]) (N:=["one","machine"]) (js:=[none,some 4]) (Jx (K:=K) rfl (pv 0)) (fun _ _ _ _ _=>(qx (i:=0) (show (["one","machine"]:List Str).Nodup from ∅) rfl (Or.inl rfl))) (fun _ _ _ _ _=>zn) (fun _ _ _ _ _=>(pdf d_is_middle (qa (pv 0) (qa (pv 1) qb)))) (qB rfl) ⟨∅,rfl,∅,∅,rfl,∅⟩) qb)))))) qv)
   (qf (qF (qu ze (pv 1) qj (qq _)) (qg (qm (Zg (zb qaz (pv 0) J8 (qq _)) (zp (pdf d_is_middle (qa (pv 0) (qa (pv 4) qb))))))) qv)
   (qf (qF (qu ze (pv 1) qj (qq _)) (qg (qm (pdf d_is_place (qa (pv 0) (qa (pv 4) qb))))) qv)
   (qf (qF (qu ze (pv 1) qj (qq _)) (qg (qm (pdf d_is_index (qa (pv 0) (qa (qt (jN (K:=K) rfl) (by rfl) c.len_ zR (qa (pix K (pv 4) (zA c.STATES)) qb)) qb))))) qv)
   (qf (qF (qu ze (pv 1) qj (qq _)) (qg (qm (zC (pdf d_is_index (qa (pv 0) (qa (qt (jN (K:=K) rfl) (by rfl) c.len_ zR (qa (pv 2) qb)) qb))) (zp (zb ze (pix K (pix K (pv 2) (pv 0)) (zA c.OUTER)) (pv 3) (qq _)))))) qv)
   (qf (qF (qu ze (pv 1) qj (qq _)) (qg (qm (pdf d_is_number (qa (pv 0) qb)))) qv)
   (qf (qF (qu ze (pv 1) qj (qq _)) (qg (qm (zC (qt (jl (K:=K) rfl) (by rfl) c.isinstance_ qA (qa (pv 0) (qa (Jh c.str_ WE) qb))) (zp (zb (XQ (K:=K) rfl) (pv 0) (Zi T.SIGNS) rfl))))) qv)
   (qf (qF (qu ze (pv 1) qj (qq _)) (qg (qm (pdf d_is_name (qa (pv 0) qb)))) qv)
   (qg (qm (zC (pdf d_is_name (qa (pv 0) qb)) (zp (zb VA (pv 0) qj (qq _)))))))))))))))),?_⟩
 have q0:=q H (qk.refl _);have hm':(ms.map Cod.Mv.data)[n]?=some m.data:=by rw [Au,hm];rfl
 refine ⟨_,rfl,_,rfl,ixr hy hm' fun u ru=>?_⟩;refine ⟨_,rfl,(O0:2≤Af),fun p hp=>?_⟩;have g1:=qe hp (.tup [.str "to",.str "of"]);refine ⟨p,_,rfl,.inr (SqT.of upd_same),rfl,rfl,?_⟩;generalize upd H p (.tup [.str "to",.str "of"])=H1 at g1 ⊢
 replace hk:=hk.same g1
 replace hy:=hy.same g1
 replace ru:=ru.same g1
 replace q:∀ H',qk H1 H'→Q (.bl (Cod.qJ ms n m sh d)) H':=fun H' g=>q H' (g1.trans g)
 replace q0:=q H1 (qk.refl _)
 have hin:inV (.str sh) [.str "to",.str "of"]=decide (sh="to"∨sh="of"):=by
  rw [Bn];simp only [inV,eqV,Ct,List.any_nil,Er,Cc,Bd,A4];exact or_congr eq_comm eq_comm
 refine ⟨inV (.str sh) [.str "to",.str "of"],rfl,qN (fun h=>?_) fun h=>?_⟩
 ·rw [hin,A4] at h;refine ⟨_,rfl,_,rfl,_,_,_,_,rfl,hk,ru,?_⟩;have e:Cod.qJ ms n m sh d=Cod.isMid m d:=by unfold Cod.qJ;rw [if_pos h]
  rw [e] at q0;exact q0
 rw [hin,decide_eq_false_iff_not] at h
 by_cases e1:sh="args"
 ·subst e1;refine ⟨_,rfl,rfl,_,rfl,jx (show decide _=true from Am rfl) ?_⟩;simp only [Cod.wE] at q q0;refine ⟨_,rfl,_,_,0,4,rfl,hk,_,rfl,qN (fun h=>?_) fun h=>?_⟩
  ·obtain ⟨ds,rfl,_,h4⟩:=Cod.JU h;refine ⟨_,rfl,wN hk (Cod.isMid m) ⋯ (fun x d H' R g hd rd hR=>⟨_,rfl,_,rfl,_,_,_,_,rfl,rd,ru.same g,hR _ (qk.refl _)⟩) fun H' g=>?_⟩;have q':=q H' g;simp only [Cod.jX,Am h4,Be] at q';exact q'
  ·rw [Cod.XZ h] at q0;exact q0
 refine ⟨_,rfl,rfl,_,rfl,jo (show decide _=false from Ao fun z=>e1 (V.str.inj z)) ?_⟩
 by_cases e2:sh="last"
 ·subst e2;refine ⟨_,rfl,rfl,_,rfl,jx (show decide _=true from Am rfl) ?_⟩;simp only [Cod.wD] at q0;refine ⟨_,rfl,rfl,_,rfl,?_⟩;have hk2:=hk;cases hk with
  | non=>exact jk q0
  | _=>
   refine JT ⟨_,rfl,_,rfl,_,_,_,_,rfl,hk2,ru,?_⟩;simp only [Cod.Wp,Dg] at q0;exact q0
 refine ⟨_,rfl,rfl,_,rfl,jo (show decide _=false from Ao fun z=>e2 (V.str.inj z)) ?_⟩
 by_cases e3:sh="place"
 ·subst e3;refine ⟨_,rfl,rfl,_,rfl,jx (show decide _=true from Am rfl) ?_⟩;exact ⟨_,rfl,_,rfl,_,_,_,_,rfl,hk,ru,q0⟩
 refine ⟨_,rfl,rfl,_,rfl,jo (show decide _=false from Ao fun z=>e3 (V.str.inj z)) ?_⟩
 by_cases e4:sh="state"
 ·subst e4;refine ⟨_,rfl,rfl,_,rfl,jx (show decide _=true from Am rfl) ?_⟩;exact ⟨_,rfl,_,rfl,ixr (i:=7) ru rfl fun v rv=>⟨_,_,rfl,y0 rv,_,_,_,rfl,hk,q0⟩⟩
 refine ⟨_,rfl,rfl,_,rfl,jo (show decide _=false from Ao fun z=>e4 (V.str.inj z)) ?_⟩
 by_cases e5:sh="machine"
 ·subst e5;refine ⟨_,rfl,rfl,_,rfl,jx (show decide _=true from Am rfl) ?_⟩;simp only [Cod.Xq] at q0;refine ⟨_,rfl,_,rfl,_,_,rfl,y0 hy,_,_,_,rfl,hk,_,rfl,?_⟩;rw [Aj];refine qN (fun h=>?_) fun h=>?_
  ·obtain ⟨i,rfl,i0,i1⟩:=Cod.qR h;cases hk;obtain ⟨j,rfl⟩:∃ j:Nat,i=(j:Nat):=⟨i.toNat,⋯⟩;obtain ⟨m',hm2⟩:∃ m',ms[j]?=some m':=⟨_,Ah ⋯⟩;refine ⟨_,rfl,_,rfl,ixr hy (by rw [Au,hm2];rfl) fun v rv=>ixr (i:=1) rv rfl fun z rz=>⟨_,rfl,?_⟩⟩
   have e:Cod.Jm ms n (.int (j:Nat))=(m'.outer==some (n:Int)):=by
    simp only [Cod.Jm,h,Be,Cod.intOf,Bf,hm2,Dr];rfl
   rw [e] at q0;obtain ⟨k,o,p,nm,sl,b,t,st⟩:=m';cases o with
   | none=>
    cases rz;exact ⟨rfl,q0⟩
   | some o=>
    cases rz;refine ⟨rfl,?_⟩;have e2:decide (V.int o=V.int (n:Int))=((some o:Option Int)==some (n:Int)):=by
     rw [Bn,A4,Bd];exact ⟨fun h=>by rw [V.int.inj h],fun h=>by rw [Bh h]⟩
    rw [e2];exact q0
  ·simp only [Cod.Jm,h,Ba] at q0;exact q0
 refine ⟨_,rfl,rfl,_,rfl,jo (show decide _=false from Ao fun z=>e5 (V.str.inj z)) ?_⟩
 by_cases e6:sh="number"
 ·subst e6;refine ⟨_,rfl,rfl,_,rfl,jx (show decide _=true from Am rfl) ?_⟩;exact ⟨_,rfl,_,_,rfl,hk,ft,q⟩
 refine ⟨_,rfl,rfl,_,rfl,jo (show decide _=false from Ao fun z=>e6 (V.str.inj z)) ?_⟩
 by_cases e7:sh="sign"
 ·subst e7;refine ⟨_,rfl,rfl,_,rfl,jx (show decide _=true from Am rfl) ?_⟩;refine ⟨_,rfl,_,_,"str",rfl,hk,O0,_,rfl,?_⟩;cases hk with
  | str x=>exact jk ⟨_,rfl,fun a ha=>⟨a,_,rfl,.inr (ha H1),rfl,rfl,q0⟩⟩
  | _=>exact JT q0
 refine ⟨_,rfl,rfl,_,rfl,jo (show decide _=false from Ao fun z=>e7 (V.str.inj z)) ?_⟩
 by_cases e8:sh="word"
 ·subst e8;refine ⟨_,rfl,rfl,_,rfl,jx (show decide _=true from Am rfl) ?_⟩;exact ⟨_,rfl,_,_,rfl,hk,ft,q⟩
 refine ⟨_,rfl,rfl,_,rfl,jo (show decide _=false from Ao fun z=>e8 (V.str.inj z)) ?_⟩;rw [Cod.qcu h e1 e2 e3 e4 e5 e6 e7 e8] at q;refine ⟨_,rfl,_,_,rfl,hk,ft,fun H' g=>⟨_,rfl,?_⟩⟩;have q':=q H' g;cases hk with
 | str x=>
  refine qN (c:=Tre.JH x) (fun hn=>⟨_,rfl,rfl,?_⟩) fun hn=>?_
  ·simp only [Tre.jm,hn,Be,Tre.txt] at q';show Q (.bl (!decide (V.str x=V.str "any"))) H';rw [v7];exact q'
  ·simp only [Tre.jm,hn,Ba] at q';exact q'
 | _=>exact JT q'
def qfj (K:Frag):Sp:=fun vs H Q _=>∃ x ds b fs y ms n m,vs=[x,.ref b,y,.int (n:Nat)]∧Rep K H x (.tuple ds)∧Cod.fit (.tuple ds)=true∧SqT K H b (fs.map V.str)∧Rep K H y (.tuple (ms.map Cod.Mv.data))∧ms[n]?=some m∧∀ H',qk H H'→Q (.bl (Cod.qQ ms n m fs ds)) H'
theorem Wh (F:Fun K "have_shapes" "have_shapes" j2 f fd) (c:Cs K mg ad) (d_has_shape:Def P w K mg base 5 "has_shape" ["thing","shape","code","number"] (qho K)):FnOk P w K mg base CX0 6 f fd ["things","shapes","code","number"] (qfj K):=by
 refine F.ok wU (fun vs H Q E h=>?_) (fun cdv A outer s H vs Q E hr h=>?_)
 ·obtain ⟨x,ds,b,fs,y,ms,n,m,rfl,_⟩:=h;rfl
 obtain ⟨x,ds,b,fs,y,ms,n,m,rfl,hk,ft,hb,hy,hm,q⟩:=h;refine ⟨_,(qf (qF (qu VA (qt (jN (K:=K) rfl) (by rfl) c.len_ zR (qa (pv 0) qb)) (qt (jN (K:=K) rfl) (by rfl) c.len_ zR (qa (pv 1) qb)) (qq _)) (qg (qm zJ)) qv)
   (qg (qm (qt (JY (K:=K) rfl rfl) (by rfl) c.all_ jW (qa (qX (sc:=qh j2) (NX:=["things","shapes","code","number"]) (N:=["thing","shape","code","number"]) (js:=[none,none,some 2,some 3]) (w8 (K:=K) rfl c.zip_ (qa (pv 0) (qa (pv 1) qb))) (fun _ _ _ _ _=>(vq (K:=K) (n:=2) rfl rfl (qM (qx (i:=0) (show (["thing","shape","code","number"]:List Str).Nodup from ∅) rfl (Or.inl rfl)) (qM (qx (i:=1) (show (["thing","shape","code","number"]:List Str).Nodup from ∅) rfl (Or.inl rfl)) jr)))) (fun _ _ _ _ _=>zn) (fun _ _ _ _ _=>(pdf d_has_shape (qa (pv 0) (qa (pv 1) (qa (pv 2) (qa (pv 3) qb)))))) (Vz rfl rfl) ⟨∅,rfl,∅,∅,rfl,∅⟩) qb))))),?_⟩
 refine ⟨_,rfl,_,_,rfl,y0 hk,_,rfl,_,_,rfl,.inr ⟨_,hb,rfl⟩,rfl,_,rfl,?_⟩;rw [Aj];refine qN (fun h=>?_) fun h=>?_
 ·have h':ds.length≠fs.length:=fun z=>by rw [z] at h;simp at h
  have q':=q H (qk.refl _);simp only [Cod.qQ,Ao h',Ba] at q';exact q'
 ·have h':ds.length=fs.length:=by
   have:=Co (nf h);have:=V.int.inj this;omega
  refine ⟨_,rfl,_,rfl,qek hk hb (fun d sh=>Cod.qJ ms n m sh d) h' (Cod.vk ft).1 (fun x d sh H' R g hd rd hR=>?_) fun H' g=>?_⟩
  ·exact ⟨_,rfl,_,rfl,_,rfl,_,rfl,_,_,_,_,_,_,_,rfl,rd,Cod.VF ft hd,hy.same g,hm,hR⟩
  ·have q':=q H' g;simp only [Cod.qQ,Am h',Be] at q';exact q'
def qfk (K:Frag):Sp:=fun vs H Q _=>∃ x d b hs y ms n m,vs=[x,.ref b,y,.int (n:Nat)]∧Rep K H x d∧Cod.fit d=true∧SqT K H b (hs.map V.str)∧(∀ h,(hs.any fun y=>y==h)=true→(Cod.forms.lookup h).isSome=true)∧Rep K H y (.tuple (ms.map Cod.Mv.data))∧ms[n]?=some m∧∀ H',qk H H'→Q (.bl (Cod.zw hs ms n m d)) H'
theorem YS (F:Fun K "has_form" "has_form" Vi f fd) (c:Cs K mg ad) (T:Tb P w K mg) (d_have_shapes:Def P w K mg base 6 "have_shapes" ["things","shapes","code","number"] (qfj K)):FnOk P w K mg base CX0 7 f fd ["thing","heads","code","number"] (qfk K):=by
 refine F.ok Yz (fun vs H Q E h=>?_) (fun cdv A outer s H vs Q E hr h=>?_)
 ·obtain ⟨x,d,b,hs,y,ms,n,m,rfl,_⟩:=h;rfl
 obtain ⟨x,d,b,hs,y,ms,n,m,rfl,hk,ft,hb,hh,hy,hm,q⟩:=h;refine ⟨_,(qf (qF (PW.pt (JQ (zo (zh (qt (jl (K:=K) rfl) (by rfl) c.isinstance_ qA (qa (pv 0) (qa (Jh c.tuple_ zO) qb))))) (JQ (qu ze (qt (jN (K:=K) rfl) (by rfl) c.len_ zR (qa (pv 0) qb)) qc (qq _)) (Jf (zo (zh (qt (jl (K:=K) rfl) (by rfl) c.isinstance_ qA (qa (pix K (pv 0) qc) (qa (Jh c.str_ WE) qb))))))))) (qg (qm zJ)) qv)
   (qg (qm (zC (zb (XQ (K:=K) rfl) (pix K (pv 0) qc) (pv 1) rfl) (zp (pdf d_have_shapes (qa (qZ (WK (K:=K) rfl) (pv 0) (qI qc) Jl) (qa (wF (K:=K) rfl T.CODE_FORMS (pix K (pv 0) qc) (fun _ _=>rfl)) (qa (pv 2) (qa (pv 3) qb)))))))))),?_⟩
 have q0:=q H (qk.refl _);refine ⟨_,rfl,_,_,"tuple",rfl,hk,O0,_,rfl,?_⟩;have hk2:=hk;cases hk with
 | @tup a xs ds hq hxs=>
  refine JT ⟨_,rfl,_,_,rfl,y0 hk2,rfl,_,rfl,?_⟩;cases hxs with
  | nil=>exact jk (jk q0)
  | @cons v vs e es r rs=>
   refine jo (show decide _=false from Ao fun z=>by have:=V.int.inj z;rw [Bj] at this;omega) ?_
   refine ⟨_,rfl,ixr (i:=0) hk2 rfl fun u ru=>⟨_,_,"str",rfl,ru,O0,_,rfl,?_⟩⟩;cases ru with
   | str h=>
    refine JT ⟨_,rfl,ixr (i:=0) hk2 rfl fun u ru=>?_⟩;cases ru;refine ⟨_,rfl,_,_,rfl,.inr hb,rfl,Qs hs,(hs.any fun y=>y==h),congrArg V.bl (qdv h hs),qN (fun hi=>?_) fun hi=>?_⟩
    ·obtain ⟨fs,hfs⟩:=Cr.mp (hh h hi);refine ⟨_,rfl,_,rfl,.inr (.inr ⟨a,_,rfl,hq,ZK _ _,fun p hp=>?_⟩)⟩;rw [qg1];have g1:=qe hp (.tup vs);refine ⟨_,rfl,ixr (i:=0) (hk2.same g1) rfl fun u ru=>?_⟩;cases ru;refine ⟨_,_,rfl,hfs,fun a3 ha3=>⟨_,rfl,_,rfl,_,_,_,_,_,_,_,_,rfl,.tup (SqT.of upd_same) (rs.same g1),?_,ha3 _,hy.same g1,hm,fun H' g=>?_⟩⟩
     ·have h1:=(Cod.vk ft).1;have h2:=(Cod.vk ft).2;rw [Bj] at h1;rw [Cod.vn,Al] at h2;rw [Cod.fit,h2.2,Am ⋯];rfl
     ·have q':=q H' (g1.trans g);simp only [Cod.zw,hi,hfs,Be,Eb] at q';exact q'
    ·simp only [Cod.zw,hi,Ba] at q0;exact q0
   | _=>exact jk q0
 | _=>exact jk (jk q0)
def spS (K:Frag) (g:List Cod.Mv→Nat→Cod.Mv→Aa→Bool):Sp:=fun vs H Q _=>∃ x d y ms n m,vs=[x,y,.int (n:Nat)]∧Rep K H x d∧Cod.fit d=true∧Rep K H y (.tuple (ms.map Cod.Mv.data))∧ms[n]?=some m∧∀ H',qk H H'→Q (.bl (g ms n m d)) H'
theorem row_heads:∀ h,(Cod.rowHeads.any fun y=>y==h)=true→(Cod.forms.lookup h).isSome=true:=fun h hh=>by
 simp only [Cod.rowHeads,Ct,List.any_nil,Er,Cc,Bd] at hh;rcases hh with h | h | h | h | h <;> subst h <;> rfl
theorem end_heads:∀ h,(Cod.endHeads.any fun y=>y==h)=true→(Cod.forms.lookup h).isSome=true:=fun h hh=>by
 simp only [Cod.endHeads,Ct,List.any_nil,Er,Cc,Bd] at hh;rcases hh with h | h | h | h | h | h | h | h <;> subst h <;> rfl
theorem Qc (F:Fun K "is_row" "is_row" wV f fd) (c:Cs K mg ad) (T:Tb P w K mg) (d_has_form:Def P w K mg base 7 "has_form" ["thing","heads","code","number"] (qfk K)):FnOk P w K mg base CX0 8 f fd ["thing","code","number"] (spS K Cod.JV):=by
 refine F.ok Z3 (fun vs H Q E h=>?_) (fun cdv A outer s H vs Q E hr h=>?_)
 ·obtain ⟨x,d,y,ms,n,m,rfl,_⟩:=h;rfl
 obtain ⟨x,d,y,ms,n,m,rfl,hk,ft,hy,hm,q⟩:=h;exact ⟨_,(qg (qm (pdf d_has_form (qa (pv 0) (qa (Zi T.ROW_HEADS) (qa (pv 1) (qa (pv 2) qb))))))),_,rfl,fun a ha=>⟨_,rfl,_,rfl,_,_,_,Cod.rowHeads,_,_,_,_,rfl,hk,ft,ha H,row_heads,hy,hm,q⟩⟩
theorem Qd (F:Fun K "is_end" "is_end" wW f fd) (c:Cs K mg ad) (T:Tb P w K mg) (d_has_form:Def P w K mg base 7 "has_form" ["thing","heads","code","number"] (qfk K)):FnOk P w K mg base CX0 8 f fd ["thing","code","number"] (spS K Cod.jO):=by
 refine F.ok Z4 (fun vs H Q E h=>?_) (fun cdv A outer s H vs Q E hr h=>?_)
 ·obtain ⟨x,d,y,ms,n,m,rfl,_⟩:=h;rfl
 obtain ⟨x,d,y,ms,n,m,rfl,hk,ft,hy,hm,q⟩:=h;refine ⟨_,(qf (qF (zo (zh (pdf d_has_form (qa (pv 0) (qa (Zi T.END_HEADS) (qa (pv 1) (qa (pv 2) qb))))))) (qg (qm zJ)) qv)
   (qg (qm (Zg (zb VA (pix K (pv 0) qc) qj (qq _)) (zp (zb VA (pix K (pix K (pv 1) (pv 2)) (zA c.KIND)) qj (qq _))))))),_,rfl,fun a ha=>⟨_,rfl,_,rfl,_,_,_,Cod.endHeads,_,_,_,_,rfl,hk,ft,ha H,end_heads,hy,hm,fun H' g=>⟨_,rfl,?_⟩⟩⟩
 have q':=q H' g;refine qN (fun h=>?_) fun h=>?_
 ·simp only [Cod.jO,nt h,Ba] at q';exact q'
 ·have h':=nf h;obtain ⟨z,ds,rfl⟩:=Cod.vj h';simp only [Cod.jO,h',Be,Cod.XR] at q';refine ⟨_,rfl,ixr (i:=0) (hk.same g) rfl fun u ru=>?_⟩;cases ru;refine ⟨rfl,_,rfl,?_⟩;rw [v7];refine qN (fun h=>?_) fun h=>?_
  ·rw [h,Bool.true_or] at q';exact q'
  ·rw [h,Dg] at q';refine ⟨_,rfl,_,rfl,ixr (hy.same g) (by rw [Au,hm];rfl) fun v rv=>ixr (i:=0) rv rfl fun u ru=>?_⟩
   cases ru;refine ⟨rfl,?_⟩;rw [v7];exact q'
theorem YR (F:Fun K "is_catch" "is_catch" Vh f fd) (c:Cs K mg ad) (T:Tb P w K mg) (d_have_shapes:Def P w K mg base 6 "have_shapes" ["things","shapes","code","number"] (qfj K)):FnOk P w K mg base CX0 7 f fd ["thing","code","number"] (spS K Cod.j3):=by
 refine F.ok Yy (fun vs H Q E h=>?_) (fun cdv A outer s H vs Q E hr h=>?_)
 ·obtain ⟨x,d,y,ms,n,m,rfl,_⟩:=h;rfl
 obtain ⟨x,d,y,ms,n,m,rfl,hk,ft,hy,hm,q⟩:=h;refine ⟨_,(qg (qm (zC (qt (jl (K:=K) rfl) (by rfl) c.isinstance_ qA (qa (pv 0) (qa (Jh c.tuple_ zO) qb))) (zp (pdf d_have_shapes (qa (pv 0) (qa (Zi T.CATCH_SHAPES) (qa (pv 1) (qa (pv 2) qb))))))))),_,rfl,_,_,"tuple",rfl,hk,O0,_,rfl,?_⟩
 have hk2:=hk;cases hk with
 | tup hq hs=>exact jk ⟨_,rfl,fun a ha=>⟨_,rfl,_,rfl,_,_,_,Cod.catchShapes,_,_,_,_,rfl,hk2,ft,ha H,hy,hm,q⟩⟩
 | _=>exact JT (q H (qk.refl _))
theorem YM (F:Fun K "is_state" "is_state" Jp f fd) (c:Cs K mg ad) (d_is_tuple:Def P w K mg base 1 "is_tuple" ["thing","least","most"] (ZY K)) (d_is_row:Def P w K mg base 8 "is_row" ["thing","code","number"] (spS K Cod.JV)) (d_is_end:Def P w K mg base 8 "is_end" ["thing","code","number"] (spS K Cod.jO)) (d_is_catch:Def P w K mg base 7 "is_catch" ["thing","code","number"] (spS K Cod.j3)):FnOk P w K mg base CX0 9 f fd ["thing","code","number"] (spS K Cod.qY):=by
 refine F.ok vC (fun vs H Q E h=>?_) (fun cdv A outer s H vs Q E hr h=>?_)
 ·obtain ⟨x,d,y,ms,n,m,rfl,_⟩:=h;rfl
 obtain ⟨x,d,y,ms,n,m,rfl,hk,ft,hy,hm,q⟩:=h;refine ⟨_,(qf (qF (zo (zh (pdf d_is_tuple (qa (pv 0) (qa (zA c.STATE_LENGTH) (qa (zA c.STATE_LENGTH) qb)))))) (qg (qm zJ)) qv)
   (qf (pst 3 vC.nd (pix K (pv 0) (zA c.ROWS)))
   (qf (pst 4 vC.nd (pix K (pv 0) (zA c.CATCHES)))
   (qf (qF (PW.pt (JQ (zo (zh (pdf d_is_tuple (qa (pv 3) (qa qc (qa (zA c.MOST_ROWS) qb)))))) (Jf (zo (zh (pdf d_is_tuple (qa (pv 4) (qa qc (qa (zA c.MOST_CATCHES) qb))))))))) (qg (qm zJ)) qv)
   (qf (qF (PW.pt (JQ (zo (zh (qt (JY (K:=K) rfl rfl) (by rfl) c.all_ jW (qa (qX (sc:=qh Jp) (NX:=["thing","code","number","rows","catches"]) (N:=["row","code","number"]) (js:=[none,some 1,some 2]) (Jx (K:=K) rfl (pv 3)) (fun _ _ _ _ _=>(qx (i:=0) (show (["row","code","number"]:List Str).Nodup from ∅) rfl (Or.inl rfl))) (fun _ _ _ _ _=>zn) (fun _ _ _ _ _=>(pdf d_is_row (qa (pv 0) (qa (pv 1) (qa (pv 2) qb))))) (qB rfl) ⟨∅,rfl,∅,∅,rfl,∅⟩) qb)))) (Jf (zo (zh (pdf d_is_end (qa (pix K (pv 0) (zA c.END)) (qa (pv 1) (qa (pv 2) qb))))))))) (qg (qm zJ)) qv)
   (qg (qm (qt (JY (K:=K) rfl rfl) (by rfl) c.all_ jW (qa (qX (sc:=qh Jp) (NX:=["thing","code","number","rows","catches"]) (N:=["one","code","number"]) (js:=[none,some 1,some 2]) (Jx (K:=K) rfl (pv 4)) (fun _ _ _ _ _=>(qx (i:=0) (show (["one","code","number"]:List Str).Nodup from ∅) rfl (Or.inl rfl))) (fun _ _ _ _ _=>zn) (fun _ _ _ _ _=>(pdf d_is_catch (qa (pv 0) (qa (pv 1) (qa (pv 2) qb))))) (qB rfl) ⟨∅,rfl,∅,∅,rfl,∅⟩) qb))))))))),?_⟩
 have q0:=q H (qk.refl _);refine ⟨_,rfl,_,_,3,3,rfl,hk,_,rfl,qN (fun h=>?_) fun h=>?_⟩
 ·rw [Cod.ZX (nt h)] at q0;exact q0
 obtain ⟨r,e,k,rfl⟩:=Cod.QQ (nf h);refine ⟨_,rfl,ixr (i:=0) hk rfl fun u ru=>⟨_,rfl,ixr (i:=2) hk rfl fun v rv=>?_⟩⟩;refine ⟨_,rfl,_,_,0,1000,rfl,ru,_,rfl,qN (fun h=>?_) fun h=>?_⟩
 ·rw [Cod.Xn (nt h)] at q0;exact jk q0
 obtain ⟨rows,rfl,_,hl1⟩:=Cod.JU (nf h);refine ⟨_,rfl,_,_,0,20,rfl,rv,_,rfl,qN (fun h=>?_) fun h=>?_⟩
 ·rw [Cod.Xm (nt h)] at q0;exact q0
 obtain ⟨cts,rfl,_,hl2⟩:=Cod.JU (nf h);have es:Cod.qY ms n m (.tuple [.tuple rows,e,.tuple cts])=(rows.all (Cod.JV ms n m)&&Cod.jO ms n m e&&cts.all (Cod.j3 ms n m)):=by
  simp only [Cod.qY,Am hl1,Am hl2,Be]
 rw [es] at q;have f0:=Cod.vO (i:=0) ft rfl;have f1:=Cod.vO (i:=1) ft rfl;have f2:=Cod.vO (i:=2) ft rfl;refine ⟨_,rfl,WG ru (Cod.JV ms n m) ⋯ (fun x d H' R g hd rd hR=>⟨_,rfl,_,rfl,_,rfl,_,_,_,_,_,_,rfl,rd,Cod.VF f0 hd,hy.same g,hm,hR⟩) fun H1 D g1 hD=>⟨D,_,rfl,hD,_,rfl,?_⟩⟩;rw [X0];refine qN (fun h=>?_) fun h=>?_
 ·have q':=q H1 g1;rw [nt h,Ba,Ba] at q';exact jk q'
 have h1:=nf h;refine ⟨_,rfl,ixr (i:=1) (hk.same g1) rfl fun z rz=>⟨_,rfl,_,rfl,_,_,_,_,_,_,rfl,rz,f1,hy.same g1,hm,fun H2 g2=>⟨_,rfl,qN (fun h=>?_) fun h=>?_⟩⟩⟩
 ·have q':=q H2 (g1.trans g2);rw [h1,nt h,Be,Ba] at q';exact q'
 have h2:=nf h;refine ⟨_,rfl,wN (rv.same (g1.trans g2)) (Cod.j3 ms n m) ⋯ (fun x d H' R g hd rd hR=>⟨_,rfl,_,rfl,_,rfl,_,_,_,_,_,_,rfl,rd,Cod.VF f2 hd,hy.same ((g1.trans g2).trans g),hm,hR⟩) fun H3 g3=>?_⟩;have q':=q H3 ((g1.trans g2).trans g3);rw [h1,h2,Be,Be] at q';exact q'
def spE (K:Frag):Sp:=fun vs H Q _=>∃ x n k o p nm s b t st,vs=[x,.int (n:Nat)]∧Rep K H x (.tuple [k,o,p,nm,s,b,t,st])∧∀ H',qk H H'→Q (.bl (Cod.JG n k o)) H'
theorem vH (F:Fun K "has_place_in_code" "has_place_in_code" jh f fd) (c:Cs K mg ad) (d_is_index:Def P w K mg base 2 "is_index" ["thing","length"] (Yp K)):FnOk P w K mg base CX0 3 f fd ["machine","number"] (spE K):=by
 refine F.ok j6 (fun vs H Q E h=>?_) (fun cdv A outer s H vs Q E hr h=>?_)
 ·obtain ⟨x,n,_,_,_,_,_,_,_,_,rfl,_⟩:=h;rfl
 obtain ⟨x,n,k,o,p,nm,sl,b,t,st,rfl,hk,q⟩:=h;refine ⟨_,(qf (pst 2 j6.nd (pix K (pv 0) (zA c.KIND)))
   (qf (qF (zo (zh (qt (jl (K:=K) rfl) (by rfl) c.isinstance_ qA (qa (pv 2) (qa (Jh c.str_ WE) qb))))) (qg (qm zJ)) qv)
   (qf (qF (qu ze (pv 1) qc (qq _)) (qg (qm (zC (zb ze (pv 2) qj (qq _)) (zp (zb qaz (pix K (pv 0) (zA c.OUTER)) J8 (qq _)))))) qv)
   (qg (qm (zC (zb (XQ (K:=K) rfl) (pv 2) (qi (qa qj (qa qj qb))) rfl) (zp (pdf d_is_index (qa (pix K (pv 0) (zA c.OUTER)) (qa (pv 1) qb)))))))))),?_⟩
 have q0:=q H (qk.refl _);refine ⟨_,rfl,ixr (i:=0) hk rfl fun u ru=>⟨_,rfl,_,_,"str",rfl,ru,O0,_,rfl,?_⟩⟩;cases ru with
 | str z=>
  refine JT ⟨_,rfl,rfl,_,rfl,?_⟩
  by_cases hn:n=0
  ·subst hn;refine jx (show decide _=true from Am rfl) ⟨_,rfl,rfl,_,rfl,?_⟩;rw [v7];simp only [Cod.JG,if_true] at q0;refine qN (fun h=>?_) fun h=>?_
   ·rw [h,Be] at q0;refine ⟨_,rfl,ixr (i:=1) hk rfl fun v rv=>⟨rfl,?_⟩⟩;cases rv <;> exact q0
   ·rw [h,Ba] at q0;exact q0
  ·refine jo (show decide _=false from Ao fun z=>hn (by have:=V.int.inj z;omega)) ?_
   refine ⟨_,rfl,(O0:2≤Af),fun p hp=>?_⟩;have g1:=qe hp (.tup [.str "fun",.str "loop"]);refine ⟨p,_,rfl,.inr (SqT.of upd_same),rfl,rfl,?_⟩;have q1:=q _ g1;generalize upd H p (.tup [.str "fun",.str "loop"])=H1 at g1 q1 ⊢;have hin:inV (.str z) [.str "fun",.str "loop"]=(z=="fun"||z=="loop"):=by
    rw [Bn];simp only [inV,eqV,Ct,List.any_nil,Er,Cc,Bd];exact or_congr eq_comm eq_comm
   refine ⟨inV (.str z) [.str "fun",.str "loop"],rfl,?_⟩;rw [hin];simp only [Cod.JG,if_neg hn] at q1;refine qN (fun h=>?_) fun h=>?_
   ·rw [h,Be] at q1;exact ⟨_,rfl,ixr (i:=1) (hk.same g1) rfl fun v rv=>⟨_,rfl,_,_,_,rfl,rv,q1⟩⟩
   ·rw [h,Ba] at q1;exact q1
 | _=>exact jk q0
def spC (K:Frag):Sp:=fun vs H Q _=>∃ x k o p nm s b t st,vs=[x]∧Rep K H x (.tuple [k,o,p,nm,s,b,t,st])∧Q (.bl (Cod.jI p nm s)) H
theorem WR (F:Fun K "has_counts" "has_counts" J5 f fd) (c:Cs K mg ad) (d_is_index:Def P w K mg base 2 "is_index" ["thing","length"] (Yp K)):FnOk P w K mg base CX0 3 f fd ["machine"] (spC K):=by
 refine F.ok WL (fun vs H Q E h=>?_) (fun cdv A outer s H vs Q E hr h=>?_)
 ·obtain ⟨x,_,_,_,_,_,_,_,_,rfl,_⟩:=h;rfl
 obtain ⟨x,k,o,p,nm,sl,b,t,st,rfl,hk,q⟩:=h;refine ⟨_,(qf (qF (PW.pt (JQ (zo (zh (pdf d_is_index (qa (pix K (pv 0) (zA c.SLOTS)) (qa (qH zk (zA c.MOST_SLOTS) qc) qb))))) (Jf (zo (zh (pdf d_is_index (qa (pix K (pv 0) (zA c.NAMES)) (qa (qH zk (pix K (pv 0) (zA c.SLOTS)) qc) qb)))))))) (qg (qm zJ)) qv)
   (qg (qm (pdf d_is_index (qa (pix K (pv 0) (zA c.PARAMS)) (qa (qH zk (qt (QF rfl) (by rfl) c.min_ qg6 (qa (pix K (pv 0) (zA c.NAMES)) (qa (zA c.MOST_PARAMS) qb))) qc) qb)))))),?_⟩
 refine ⟨_,rfl,ixr (i:=4) hk rfl fun u ru=> .inl ⟨_,_,rfl,rfl,_,_,_,rfl,ru,_,rfl,qN (fun h=>?_) fun h=>?_⟩⟩
 ·have e1:Cod.qy 1001 sl=false:=nt h;simp only [Cod.jI,e1,Ba] at q;exact jk q
 have e1:Cod.qy 1001 sl=true:=nf h;obtain ⟨i,rfl,_⟩:=Cod.qR e1;cases ru;refine ⟨_,rfl,ixr (i:=3) hk rfl fun v rv=>⟨_,rfl,ixr (i:=4) hk rfl fun u ru=>?_⟩⟩;cases ru;refine .inl ⟨_,_,rfl,rfl,_,_,_,rfl,rv,_,rfl,qN (fun h2=>?_) fun h2=>?_⟩
 ·have e2:Cod.qy (Cod.intOf (.int i)+1) nm=false:=nt h2;simp only [Cod.jI,e1,e2,Be,Ba] at q;exact q
 have e2:Cod.qy (Cod.intOf (.int i)+1) nm=true:=nf h2;obtain ⟨j,rfl,_⟩:=Cod.qR e2;cases rv;refine ⟨_,rfl,ixr (i:=2) hk rfl fun u ru=>⟨_,rfl,ixr (i:=3) hk rfl fun v rv=>?_⟩⟩;cases rv;refine ⟨_,_,rfl,.inl ⟨_,_,rfl,rfl,_,_,_,rfl,ru,?_⟩⟩;simp only [Cod.jI,e1,e2,Be] at q;exact q
theorem Yk:∀ l:List Int,(l.zip l.tail).all (fun p=>decide (p.1<p.2))=Cod.JF l
 | []=>rfl
 | [_]=>rfl
 | a::b::r=>by
  have:=Yk (b::r);simp only [List.tail_cons,List.zip_cons_cons,C3,Cod.JF] at this ⊢;rw [this]
theorem qb2 (l:List V):JX l (some 1) none=l.tail:=by
 cases l with
 | nil=>rfl
 | cons y ys=>exact qg1 y ys
theorem QB {a b:Ac} {l m:List Int} {σ:St} {H:Hp} {Q:VK} {js:List (Option Nat)} (hj:js=[none,none]) (ha:SqT K H a (l.map V.int)) (hb:SqT K H b (m.map V.int)) (hz:l.length≤1000000)
  (fin:∀ H' D,qk H H'→SqL K H' D (((l.zip m).map fun p=>decide (p.1<p.2)).map V.bl)→Q (.ref D) H'):zK (Itz K a b) js (Y3 K 2 (JW (qC 0) (JW (qC 1) XT))) Jw (tOp (rI0 fun i j=> .bl (decide (i<j))) (qG 0) (qG 1)) σ H Q:=by
 subst hj;have hzl:(l.zip m).length=min l.length m.length:=Cg;refine zd (l.zip m).length (fun i ys H'=>qk H H'∧ys=((l.zip m).take i).map fun p=>V.bl (decide (p.1<p.2))) ⟨qk.refl _,rfl⟩ (fun i ys H' h=>?_) (vd ⋯) (fun i ys H' hi h=>?_) (fun ys H' h=>?_)
 ·rw [h.2,Aj];exact Bw _ _
 ·obtain ⟨g,rfl⟩:=h;have hx:l[i]?=some l[i]:=Ah ⋯;have hy:m[i]?=some m[i]:=Ah ⋯;have hx':(l.map V.int)[i]?=some (.int l[i]):=by rw [Au,hx];rfl
  have hy':(m.map V.int)[i]?=some (.int m[i]):=by rw [Au,hy];rfl
  refine ⟨⟨_,_,_,_,g.sqT ha,g.sqT hb,hx',hy'⟩,fun v H2 yl=>?_⟩;obtain ⟨p,x,y,hp,rfl,e1,e2,rfl⟩:=yl;have e3:=hx'.symm.trans (e1 _ (g.sqT ha));cases e3;have e4:=hy'.symm.trans (e2 _ (g.sqT hb));cases e4;have hm:(l.zip m)[i]?=some (l[i],m[i]):=Bo.mpr ⟨hx,hy⟩;refine ⟨p,_,rfl,SqT.of upd_same,rfl,_,_,rfl,_,_,rfl,rfl,?_⟩;refine ⟨_,rfl,_,rfl,_,_,rfl,rfl,g.trans (qe hp _),?_⟩;rw [Bl,hm,A6];rfl
 ·obtain ⟨g,rfl⟩:=h;refine ⟨⟨_,_,g.sqT ha,g.sqT hb,?_⟩,fun D hD=>?_⟩
  ·rw [Aj,Aj];omega
  ·rw [Bp];exact fin _ D (g.trans (qe hD _)) (SqL.of (by rw [upd_same,Bm];rfl))
def qhr (K:Frag):Sp:=fun vs H Q _=>∃ x d n,vs=[x,.int n]∧Rep K H x d∧Cod.fit d=true∧∀ H',qk H H'→Q (.bl (Cod.jH n d)) H'
theorem yT (F:Fun K "is_rising" "is_rising" j7 f fd) (c:Cs K mg ad) (d_is_index:Def P w K mg base 2 "is_index" ["thing","length"] (Yp K)):FnOk P w K mg base CX0 3 f fd ["thing","length"] (qhr K):=by
 refine F.ok yE (fun vs H Q E h=>?_) (fun cdv A outer s H vs Q E hr h=>?_)
 ·obtain ⟨x,d,n,rfl,_⟩:=h;rfl
 obtain ⟨x,d,n,rfl,hk,ft,q⟩:=h;refine ⟨_,(qf (qF (PW.pt (JQ (zo (zh (qt (jl (K:=K) rfl) (by rfl) c.isinstance_ qA (qa (pv 0) (qa (Jh c.tuple_ zO) qb))))) (Jf (zo (zh (qt (JY (K:=K) rfl rfl) (by rfl) c.all_ jW (qa (qX (sc:=qh j7) (NX:=["thing","length"]) (N:=["one","length"]) (js:=[none,some 1]) (Jx (K:=K) rfl (pv 0)) (fun _ _ _ _ _=>(qx (i:=0) (show (["one","length"]:List Str).Nodup from ∅) rfl (Or.inl rfl))) (fun _ _ _ _ _=>zn) (fun _ _ _ _ _=>(pdf d_is_index (qa (pv 0) (qa (pv 1) qb)))) (qB rfl) ⟨∅,rfl,∅,∅,rfl,∅⟩) qb))))))) (qg (qm zJ)) qv)
   (qg (qm (qt (JY (K:=K) rfl rfl) (by rfl) c.all_ jW (qa (qX (sc:=qh j7) (NX:=["thing","length"]) (N:=["one","other"]) (js:=[none,none]) (w8 (K:=K) rfl c.zip_ (qa (pv 0) (qa (qZ (wS (K:=K) rfl) (pv 0) (qI qc) Jl) qb))) (fun _ _ _ _ _=>(vq (K:=K) (n:=2) rfl rfl (qM (qx (i:=0) (show (["one","other"]:List Str).Nodup from ∅) rfl (Or.inl rfl)) (qM (qx (i:=1) (show (["one","other"]:List Str).Nodup from ∅) rfl (Or.inl rfl)) jr)))) (fun _ _ _ _ _=>zn) (fun _ _ _ _ _=>(zb wg (pv 0) (pv 1) (qq _))) (Vz rfl rfl) ⟨∅,rfl,∅,∅,rfl,∅⟩) qb))))),?_⟩
 have q0:=q H (qk.refl _);refine ⟨_,rfl,_,_,"tuple",rfl,hk,O0,_,rfl,?_⟩;have hk2:=hk;cases hk with
 | @tup a xs ds hq hs=>
  refine JT ⟨_,rfl,WG hk2 (Cod.qy n) (Cod.vk ft).1 (fun x d H' R g hd rd hR=>⟨_,rfl,_,rfl,_,_,_,rfl,rd,hR _ (qk.refl _)⟩) fun H1 D g1 hD=>⟨D,_,rfl,hD,_,rfl,?_⟩⟩;rw [X0];refine qN (fun h=>?_) fun h=>?_
  ·have q1:=q H1 g1;simp only [Cod.jH,nt h,Ba] at q1;exact q1
  have h':=nf h;have eds:=Cod.V8 h';have hq1:=g1.sqT hq;rw [eds] at hs;obtain rfl:=V7 hs;have hl:=(Cod.vk ft).1;refine ⟨_,rfl,_,rfl,_,rfl,_,_,rfl,hq1,fun c2 H2 g2 h2=>?_⟩;rw [qb2,← List.map_tail] at h2;refine ⟨_,_,rfl,⟨_,g2.sqT hq1⟩,⟨_,h2⟩,QB rfl (g2.sqT hq1) h2 (by rw [Aj];exact hl) fun H3 D2 g3 hD2=>⟨D2,_,rfl,hD2,?_⟩⟩
  have q3:=q H3 ((g1.trans g2).trans g3);simp only [Cod.jH,h',Be,← Yk] at q3;rw [Dj];exact q3
 | _=>exact jk (jk q0)
def spO (K:Frag):Sp:=fun vs H Q _=>∃ x d n,vs=[x,.int (n:Nat)]∧Rep K H x d∧Cod.fit d=true∧∀ H',qk H H'→Q (.bl (Cod.zF n d)) H'
theorem VC (F:Fun K "has_outer_form" "has_outer_form" jS f fd) (c:Cs K mg ad) (d_is_tuple:Def P w K mg base 1 "is_tuple" ["thing","least","most"] (ZY K)) (d_has_place_in_code:Def P w K mg base 3 "has_place_in_code" ["machine","number"] (spE K)) (d_has_counts:Def P w K mg base 3 "has_counts" ["machine"] (spC K)) (d_is_rising:Def P w K mg base 3 "is_rising" ["thing","length"] (qhr K)):FnOk P w K mg base CX0 4 f fd ["machine","number"] (spO K):=by
 refine F.ok Vu (fun vs H Q E h=>?_) (fun cdv A outer s H vs Q E hr h=>?_)
 ·obtain ⟨x,d,n,rfl,_⟩:=h;rfl
 obtain ⟨x,d,n,rfl,hk,ft,q⟩:=h;refine ⟨_,(qf (qF (zo (zh (pdf d_is_tuple (qa (pv 0) (qa (zA c.MACHINE_LENGTH) (qa (zA c.MACHINE_LENGTH) qb)))))) (qg (qm zJ)) qv)
   (qf (qF (PW.pt (JQ (zo (zh (pdf d_has_place_in_code (qa (pv 0) (qa (pv 1) qb))))) (Jf (zo (zh (pdf d_has_counts (qa (pv 0) qb))))))) (qg (qm zJ)) qv)
   (qf (qF (zo (zh (pdf d_is_rising (qa (pix K (pv 0) (zA c.BOXED)) (qa (pix K (pv 0) (zA c.NAMES)) qb))))) (qg (qm zJ)) qv)
   (qg (qm (zC (qt (jl (K:=K) rfl) (by rfl) c.isinstance_ qA (qa (pix K (pv 0) (zA c.TAKEN)) (qa (Jh c.tuple_ zO) qb))) (zp (pdf d_is_tuple (qa (pix K (pv 0) (zA c.STATES)) (qa qc (qa (zA c.MOST_STATES) qb))))))))))),?_⟩
 have q0:=q H (qk.refl _);refine ⟨_,rfl,_,_,8,8,rfl,hk,_,rfl,qN (fun h=>?_) fun h=>?_⟩
 ·rw [Cod.Qa (nt h)] at q0;exact q0
 obtain ⟨k,o,p,nm,sl,b,t,st,rfl⟩:=Cod.qbt (nf h);simp only [Cod.zF] at q;refine ⟨_,rfl,_,rfl,_,_,_,_,_,_,_,_,_,_,rfl,hk,fun H1 g1=>⟨_,rfl,qN (fun h=>?_) fun h=>?_⟩⟩
 ·have q1:=q H1 g1;rw [nt h,Ba,Ba,Ba,Ba] at q1;exact jk q1
 have h1:=nf h
 replace hk:=hk.same g1
 refine ⟨_,rfl,_,_,_,_,_,_,_,_,_,rfl,hk,_,rfl,qN (fun h=>?_) fun h=>?_⟩
 ·have q1:=q H1 g1;rw [h1,nt h,Be,Ba,Ba,Ba] at q1;exact q1
 have h2:=nf h;rw [h1,h2,Be,Be] at q;have hnm:∃ i,nm= .int i:=by
  simp only [Cod.jI,Al] at h2;obtain ⟨i,rfl,_⟩:=Cod.qR h2.1.2;exact ⟨i,rfl⟩
 obtain ⟨i,rfl⟩:=hnm;refine ⟨_,rfl,ixr (i:=5) hk rfl fun u ru=>⟨_,rfl,ixr (i:=3) hk rfl fun v rv=>?_⟩⟩;cases rv;refine ⟨_,_,_,rfl,ru,Cod.vO (i:=5) ft rfl,fun H2 g2=>⟨_,rfl,qN (fun h=>?_) fun h=>?_⟩⟩
 ·have q1:=q H2 (g1.trans g2);rw [show Cod.jH (Cod.intOf (.int i)) b=false from nt h,Ba,Ba] at q1;exact q1
 replace hk:=hk.same g2
 have q1:=q H2 (g1.trans g2);rw [show Cod.jH (Cod.intOf (.int i)) b=true from nf h,Be] at q1;refine ⟨_,rfl,ixr (i:=6) hk rfl fun u ru=>⟨_,_,"tuple",rfl,ru,O0,_,rfl,?_⟩⟩;cases ru with
 | tup _ _=>exact jk ⟨_,rfl,ixr (i:=7) hk rfl fun v rv=>⟨_,_,1,2000,rfl,rv,q1⟩⟩
 | _=>exact JT q1
theorem qb5 {js:List (Option Nat)} {te:TE} {σ:St} {H:Hp} {Q:VK} {n:Nat} (g:Nat→Bool) (hz:n≤1000000)
  (step:∀ (i:Nat) (H':Hp) (R:VK),i<n→qk H H'→(∀ H5,qk H' H5→R (.bl (g i)) H5)→te ((zm js σ).set 0 (some (.int (0+(i:Nat))))) H' R)
  (fin:∀ H' D,qk H H'→SqL K H' D (((List.range n).map g).map V.bl)→Q (.ref D) H'):zK (Itr 0 n) js (qC 0) Jw te σ H Q:=by
 refine zd n (fun i ys H'=>qk H H'∧ys=(List.range i).map fun j=>V.bl (g j)) ⟨qk.refl _,rfl⟩ (fun i ys H' h=>?_) (vd hz) (fun i ys H' hi h=>?_) (fun ys H' h=>?_)
 ·rw [h.2,Aj,Dh];exact An _
 ·obtain ⟨gg,rfl⟩:=h;refine ⟨hi,fun v H2 yl=>?_⟩;obtain ⟨rfl,rfl⟩:=yl;show te ((zm js σ).set 0 (some (.int (0+(i:Nat))))) H2 (fun y H5=>qk H H5∧(List.range i).map (fun j=>V.bl (g j))++[y]=(List.range (i+1)).map fun j=>V.bl (g j));refine step i _ _ hi gg fun H5 g5=>⟨gg.trans g5,?_⟩;rw [List.range_succ,A6];rfl
 ·obtain ⟨gg,rfl⟩:=h;refine ⟨An _,fun D hD=>?_⟩;exact fin _ D (gg.trans (qe hD _)) (SqL.of (by rw [upd_same,Bm];rfl))
theorem qb8 {x:V} {ds:List Aa} {js:List (Option Nat)} {te:TE} {σ:St} {H:Hp} {Q:VK} (r:Rep K H x (.tuple ds)) (g:Nat→Aa→Bool) (hz:ds.length≤1000000)
  (step:∀ (x:V) (d:Aa) (i:Nat) (H':Hp) (R:VK),qk H H'→ds[i]?=some d→Rep K H' x d→(∀ H5,qk H' H5→R (.bl (g i d)) H5)→te (((zm js σ).set 0 (some (.int (i:Nat)))).set 1 (some x)) H' R)
  (fin:∀ H' D,qk H H'→SqL K H' D ((ds.mapIdx g).map V.bl)→Q (.ref D) H'):∃ a:Ac,[x]=[V.ref a]∧(∃ xs,SqT K H a xs)∧zK (ItE K a) js (Y3 K 2 (JW (qC 0) (JW (qC 1) XT))) Jw te σ H Q:=by
 cases r with
 | @tup a xs _ hq hs=>
  have hlen:=hs.length;refine ⟨_,rfl,⟨_,hq⟩,zd ds.length (fun i ys H'=>qk H H'∧ys=((ds.mapIdx g).take i).map V.bl) ⟨qk.refl _,rfl⟩ (fun i ys H' h=>?_) (vd hz) (fun i ys H' hi h=>?_) (fun ys H' h=>?_)⟩
  ·rw [h.2,Aj];exact Bw _ _
  ·obtain ⟨gg,rfl⟩:=h;have hx:xs[i]?=some xs[i]:=Ah ⋯;refine ⟨⟨xs,_,gg.sqT hq,hx⟩,fun v H2 yl=>?_⟩;obtain ⟨p,y,hp,rfl,e1,rfl⟩:=yl;have e3:=hx.symm.trans (e1 xs (gg.sqT hq));cases e3;obtain ⟨d,hd,rd⟩:=hs.get hx;have g2:=gg.trans (qe hp (.tup [.int (i:Nat),xs[i]]));refine ⟨p,_,rfl,SqT.of upd_same,rfl,_,_,rfl,_,_,rfl,rfl,?_⟩;show te (((zm js σ).set 0 (some (.int (i:Nat)))).set 1 (some xs[i])) _ (fun z H5=>qk H H5∧((ds.mapIdx g).take i).map V.bl++[z]=((ds.mapIdx g).take (i+1)).map V.bl);refine step _ d i _ _ g2 hd (rd.same g2) fun H5 g5=>⟨g2.trans g5,?_⟩;rw [Bl,List.getElem?_mapIdx,hd,A6];rfl
  ·obtain ⟨gg,rfl⟩:=h;refine ⟨⟨xs,gg.sqT hq,⋯⟩,fun D hD=>?_⟩;have e:(ds.mapIdx g).take ds.length=ds.mapIdx g:=Cn (by rw [List.length_mapIdx];exact An _)
   rw [e];exact fin _ D (gg.trans (qe hD _)) (SqL.of (by rw [upd_same]))
structure Cde (ms:List Cod.Mv):Prop where
 len:ms.length≤300
 ok:∀ i m,ms[i]?=some m→Cod.Okm i m
 fit:Cod.fit (.tuple (ms.map Cod.Mv.data))=true
def qhu (K:Frag):Sp:=fun vs H Q _=>∃ y ms n m,vs=[y,.int (n:Nat)]∧Rep K H y (.tuple (ms.map Cod.Mv.data))∧Cde ms∧ms[n]?=some m∧∀ H',qk H H'→Q (.bl (Cod.za ms n m)) H'
theorem VD (F:Fun K "has_inner_form" "has_inner_form" zM f fd) (c:Cs K mg ad) (d_is_far_place:Def P w K mg base 3 "is_far_place" ["thing","machine"] (spM K Cod.j8)) (d_is_state:Def P w K mg base 9 "is_state" ["thing","code","number"] (spS K Cod.qY)):FnOk P w K mg base CX0 10 f fd ["code","number"] (qhu K):=by
 refine F.ok zS (fun vs H Q E h=>?_) (fun cdv A outer s H vs Q E hr h=>?_)
 ·obtain ⟨y,ms,n,m,rfl,_⟩:=h;rfl
 obtain ⟨y,ms,n,m,rfl,hy,cde,hm,q⟩:=h;refine ⟨_,(qf (pst 2 zS.nd (pix K (pv 0) (pv 1)))
   (qf (qF (qu ze (pv 1) qc (qq _)) (qg (pst 3 zS.nd (zb ze (qt (jN (K:=K) rfl) (by rfl) c.len_ zR (qa (pix K (pv 2) (zA c.TAKEN)) qb)) qc (qq _)))) (qg (pst 3 zS.nd (qt (JY (K:=K) rfl rfl) (by rfl) c.all_ jW (qa (qX (sc:=qh zM) (NX:=["code","number","machine","takes_well"]) (N:=["one","code","machine"]) (js:=[none,some 0,some 2]) (Jx (K:=K) rfl (pix K (pv 2) (zA c.TAKEN))) (fun _ _ _ _ _=>(qx (i:=0) (show (["one","code","machine"]:List Str).Nodup from ∅) rfl (Or.inl rfl))) (fun _ _ _ _ _=>zn) (fun _ _ _ _ _=>(pdf d_is_far_place (qa (pv 0) (qa (pix K (pv 1) (pix K (pv 2) (zA c.OUTER))) qb)))) (qB rfl) ⟨∅,rfl,∅,∅,rfl,∅⟩) qb)))))
   (qg (qm (zC (pv 3) (zp (qt (JY (K:=K) rfl rfl) (by rfl) c.all_ jW (qa (qX (sc:=qh zM) (NX:=["code","number","machine","takes_well"]) (N:=["one","code","number"]) (js:=[none,some 0,some 1]) (Jx (K:=K) rfl (pix K (pv 2) (zA c.STATES))) (fun _ _ _ _ _=>(qx (i:=0) (show (["one","code","number"]:List Str).Nodup from ∅) rfl (Or.inl rfl))) (fun _ _ _ _ _=>zn) (fun _ _ _ _ _=>(pdf d_is_state (qa (pv 0) (qa (pv 1) (qa (pv 2) qb))))) (qB rfl) ⟨∅,rfl,∅,∅,rfl,∅⟩) qb)))))))),?_⟩
 have hm':(ms.map Cod.Mv.data)[n]?=some m.data:=by rw [Au,hm];rfl
 have fm:Cod.fit m.data=true:=Cod.vO cde.fit hm';have ok:=cde.ok n m hm;refine ⟨_,rfl,_,rfl,ixr hy hm' fun u ru=>⟨_,rfl,rfl,_,rfl,?_⟩⟩;have fin:∀ (b:Bool) H1,qk H H1→(∀ H',qk H H'→Q (.bl (b&&m.states.all (Cod.qY ms n m))) H')→(Xk (X5 (qG 3) (tCB (fun xs H Q=>∃ (a:Ac) (bs:List Bool),xs=[.ref a]∧SqL K H a (bs.map V.bl)∧Q (.bl (bs.all id)) H) (qw (X4 (y6 K (tOp (rIx K) (qG 2) (tC (.int 7)))) [none,some 0,some 1] (qC 0) Jw (jA (spS K Cod.qY) [] E0 (qw (qG 0) (qw (qG 1) (qw (qG 2) zu))))) zu)))) {nx:=fun x H'=>Q V.non H',rt:=Q} [some y,some (.int (n:Nat)),some u,some (.bl b)] H1:=fun b H1 g1 q=>by
  refine ⟨_,rfl,_,rfl,qN (fun h=>?_) fun h=>?_⟩
  ·subst h;refine ⟨_,rfl,ixr (i:=7) (ru.same g1) rfl fun v rv=>wN rv (Cod.qY ms n m) (by have:=ok.st2;omega) (fun x d H' R g hd rd hR=>⟨_,rfl,_,rfl,_,rfl,_,_,_,_,_,_,rfl,rd,Cod.VF (Cod.vO (i:=7) fm rfl) hd,hy.same (g1.trans g),hm,hR⟩) fun H' g=>?_⟩
   have q':=q H' (g1.trans g);rw [Be] at q';exact q'
  ·subst h;have q':=q H1 g1;rw [Ba] at q';exact q'
 have kd:=ok.kd
 by_cases hn:n=0
 ·subst hn;refine jx (show decide _=true from Am rfl) ?_;refine ⟨_,rfl,ixr (i:=6) ru rfl fun v rv=>⟨_,_,rfl,y0 rv,rfl,fin _ H (qk.refl _) fun H' g=>?_⟩⟩;have q':=q H' g;have e:decide (V.int ((m.taken.length:Nat):Int)=V.int 0)=m.taken.isEmpty:=by
   cases m.taken with
   | nil=>rfl
   | cons a b=>exact Ao fun z=>by have:=V.int.inj z;rw [Bj] at this;omega
  rw [e];exact q'
 ·refine jo (show decide _=false from Ao fun z=>hn (by have:=V.int.inj z;omega)) ?_
  rw [if_neg hn] at kd;obtain ⟨_,o,ho,o0,o1⟩:=kd;obtain ⟨j,rfl⟩:∃ j:Nat,o=(j:Nat):=⟨o.toNat,⋯⟩;have hnl:n<ms.length:=(A2.mp hm).1;obtain ⟨m',hm2⟩:∃ m',ms[j]?=some m':=⟨_,Ah ⋯⟩;have hm2':(ms.map Cod.Mv.data)[j]?=some m'.data:=by rw [Au,hm2];rfl
  refine ⟨_,rfl,ixr (i:=6) ru rfl fun v rv=>WG rv (Cod.j8 m') (Cod.vk (Cod.vO (i:=6) fm rfl)).1 (fun x d H' R g hd rd hR=>?_) fun H1 D g1 hD=>⟨D,_,rfl,hD,?_⟩⟩
  ·refine ⟨_,rfl,_,rfl,_,rfl,ixr (i:=1) (ru.same g) rfl fun z rz=>?_⟩;rw [ho] at rz;cases rz;exact ixr (hy.same g) hm2' fun z rz=>⟨_,_,_,_,rfl,rd,rz,hR _ (qk.refl _)⟩
  ·rw [X0];refine fin _ H1 g1 fun H' g=>?_;have q':=q H' g;simp only [Cod.za,if_neg hn,ho,Bf,hm2] at q';exact q'
theorem Zk:∀ (ds:List Aa) (n:Nat),(ds.mapIdx fun i d=>Cod.zF (n+i) d).all id=Cod.J9 n ds
 | [],_=>rfl
 | d::r,n=>by
  have:=Zk r (n+1);rw [List.mapIdx_cons,C3,Cod.J9,← this];refine congrArg (fun z=>Cod.zF n d&&z) (congrArg (fun l=>List.all l id) ?_);refine congrArg (fun g=>List.mapIdx g r) (funext fun i=>funext fun e=>?_);show Cod.zF (n+(i+1)) e=Cod.zF (n+1+i) e;rw [show n+(i+1)=n+1+i from ⋯]
theorem qbg (ms:List Cod.Mv):∀ (l:List Cod.Mv) (n:Nat),((List.range l.length).map fun i=>match l[i]? with | some m=>Cod.za ms (n+i) m | none=>true).all id=Cod.vM ms n l
 | [],_=>rfl
 | m::r,n=>by
  have:=qbg ms r (n+1);rw [Bj,List.range_succ_eq_map,Bb,C3,Cod.vM,← this,Bm];refine congrArg (fun z=>Cod.za ms n m&&z) (congrArg (fun l=>List.all l id) ?_);refine congrArg (fun g=>List.map g (List.range r.length)) (funext fun i=>?_);show (match (m::r)[i+1]? with | some m=>Cod.za ms (n+(i+1)) m | none=>true)=_
  rw [List.getElem?_cons_succ,show n+(i+1)=n+1+i from ⋯]
theorem XC (F:Fun K "is_code" "is_code" JO f fd) (c:Cs K mg ad) (d_is_tuple:Def P w K mg base 1 "is_tuple" ["thing","least","most"] (ZY K)) (d_has_outer_form:Def P w K mg base 4 "has_outer_form" ["machine","number"] (spO K)) (d_has_inner_form:Def P w K mg base 10 "has_inner_form" ["code","number"] (qhu K)):FnOk P w K mg base CX0 11 f fd ["thing"] (spD K Cod.jU):=by
 refine F.ok Xt (fun vs H Q E h=>?_) (fun cdv A outer s H vs Q E hr h=>?_)
 ·obtain ⟨x,d,rfl,_⟩:=h;rfl
 obtain ⟨x,d,rfl,hk,ft,q⟩:=h;refine ⟨_,(qf (qF (zo (zh (pdf d_is_tuple (qa (pv 0) (qa qc (qa (zA c.MOST_MACHINES) qb)))))) (qg (qm zJ)) qv)
   (qf (qF (zo (zh (qt (JY (K:=K) rfl rfl) (by rfl) c.all_ jW (qa (qX (sc:=qh JO) (NX:=["thing"]) (N:=["number","machine"]) (js:=[none,none]) (qaq (K:=K) rfl c.enumerate_ (qa (pv 0) qb)) (fun _ _ _ _ _=>(vq (K:=K) (n:=2) rfl rfl (qM (qx (i:=0) (show (["number","machine"]:List Str).Nodup from ∅) rfl (Or.inl rfl)) (qM (qx (i:=1) (show (["number","machine"]:List Str).Nodup from ∅) rfl (Or.inl rfl)) jr)))) (fun _ _ _ _ _=>zn) (fun _ _ _ _ _=>(pdf d_has_outer_form (qa (pv 1) (qa (pv 0) qb)))) (Vz rfl rfl) ⟨∅,rfl,∅,∅,rfl,∅⟩) qb)))) (qg (qm zJ)) qv)
   (qg (qm (qt (JY (K:=K) rfl rfl) (by rfl) c.all_ jW (qa (qX (sc:=qh JO) (NX:=["thing"]) (N:=["number","thing"]) (js:=[none,some 0]) (zi rfl c.range_ (qa (qt (jN (K:=K) rfl) (by rfl) c.len_ zR (qa (pv 0) qb)) qb)) (fun _ _ _ _ _=>(qx (i:=0) (show (["number","thing"]:List Str).Nodup from ∅) rfl (Or.inl rfl))) (fun _ _ _ _ _=>zn) (fun _ _ _ _ _=>(pdf d_has_inner_form (qa (pv 1) (qa (pv 0) qb)))) (qB rfl) ⟨∅,rfl,∅,∅,rfl,∅⟩) qb)))))),?_⟩
 have q0:=q H (qk.refl _);refine ⟨_,rfl,_,_,1,300,rfl,hk,_,rfl,qN (fun h=>?_) fun h=>?_⟩
 ·rw [Cod.qca (nt h)] at q0;exact q0
 obtain ⟨ds,rfl,l1,l2⟩:=Cod.JU (nf h);simp only [Cod.jU,Am l1,Am l2,Be] at q;refine ⟨_,rfl,qb8 hk (fun i d=>Cod.zF i d) ⋯ (fun x d i H' R g hd rd hR=>⟨_,rfl,_,rfl,_,_,_,rfl,rd,Cod.vO ft hd,hR⟩) fun H1 D g1 hD=>⟨D,_,rfl,hD,_,rfl,?_⟩⟩;have eo:(ds.mapIdx fun i d=>Cod.zF i d).all id=Cod.J9 0 ds:=by
  rw [← Zk];simp only [D5]
 rw [eo];refine qN (fun h=>?_) fun h=>?_
 ·have q1:=q H1 g1;rw [nt h,Ba] at q1;exact q1
 have ho:=nf h;simp only [ho,Be] at q;obtain ⟨ed,okm⟩:=Cod.VX ho;generalize hms:ds.map Cod.jz=ms at ed okm q;subst ed;have hl:ms.length=(ms.map Cod.Mv.data).length:=(Aj ..).symm;have cde:Cde ms:=⟨⋯,fun i m hm=>by have:=okm i m hm;rwa [D5] at this,ft⟩
 have hk1:=hk.same g1;refine ⟨_,rfl,_,_,rfl,y0 hk1,?_⟩;rw [← hl];refine ⟨_,rfl,⋯,⋯,?_⟩;rw [Bf];refine qb5 (n:=ms.length) (fun i=>match ms[i]? with | some m=>Cod.za ms (0+i) m | none=>true) ⋯ (fun i H' R hi g hR=>?_) fun H2 D2 g2 hD2=>⟨D2,_,rfl,hD2,?_⟩
 ·obtain ⟨m,hm⟩:∃ m,ms[i]?=some m:=⟨_,Ah hi⟩;refine ⟨_,rfl,_,rfl,x,ms,i,m,congrArg (fun z=>[x,V.int z]) (Dl _),hk1.same g,cde,hm,fun H5 g5=>?_⟩
  ·have:=hR H5 g5;rw [hm] at this;simp only [D5] at this;exact this
 ·rw [qbg];exact q H2 (g1.trans g2)
abbrev nV (n:Nat):V:= .int (n:Nat)
def yA (K:Frag):Sp:=fun vs H Q _=>∃ a l,vs=[.ref a]∧SqL K H a (l.map nV)∧(∀ j∈l,j<1000)∧Q (nV (Cod.bitsL l)) H
theorem QG {l:List Nat} {i j:Nat} (h:l[i]?=some j):Cod.bitsL (l.take (i+1))=Cod.bitsL (l.take i)||| 2 ^ j:=by
 unfold Cod.bitsL;rw [Bl,h,Eo];rfl
theorem XD (F:Fun K "bits_of" "bits_of" VR f fd) (c:Cs K mg ad):FnOk P w K mg base CX0 1 f fd ["slots"] (yA K):=by
 refine F.ok JZ (fun vs H Q E h=>?_) (fun cdv A outer s H vs Q E hr h=>?_)
 ·obtain ⟨a,l,rfl,_⟩:=h;rfl
 obtain ⟨a,l,rfl,hq,hl,q⟩:=h;refine ⟨_,(qf (pst 1 JZ.nd qc)
   (qf (ji Bt rfl (Jx (K:=K) rfl (pv 0)) (pgn 2 JZ.nd) (qg (qan (i:=1) JZ.nd rfl (by first | exact Or.inl rfl | exact Or.inr rfl) (qH qf2 qc (pv 2)) qiv)))
   (qg (qm (pv 1))))),?_⟩
 refine ⟨_,rfl,.inl ⟨a,rfl,⟨_,hq⟩,jn l.length (fun i σ H'=>H'=H∧∃ o,σ=[some (.ref a),some (nV (Cod.bitsL (l.take i))),o]) ⟨rfl,_,rfl⟩ (fun i σ H' hi h=>?_) (fun σ H' h=>?_)⟩⟩
 ·obtain ⟨rfl,o,rfl⟩:=h;obtain ⟨j,hj⟩:∃ j,l[i]?=some j:=⟨_,Ah hi⟩;have hv:(l.map nV)[i]?=some (nV j):=by rw [Au,hj];rfl
  refine ⟨⟨_,_,hq,hv⟩,fun x H2 y N hN=>?_⟩;obtain ⟨rfl,e⟩:=y;have e:=e _ hq;rw [hv] at e;cases e;have h1:=hl j (A0 hj);refine ⟨_,rfl,_,rfl,_,_,rfl,rfl,⟨⋯,⋯,O0⟩,_,_,rfl,rfl,hN _ _ ⟨rfl,some (nV j),?_⟩⟩;have e2:Builtin.bitOr ((Cod.bitsL (l.take i):Nat):Int) ((2:Int) ^ j)=((Cod.bitsL (l.take i)||| 2 ^ j:Nat):Int):=by
   rw [← Cod.Zl,Int.natCast_pow];rfl
  rw [QG hj,Bf,Int.one_mul];exact congrArg (fun z=>[some (V.ref a),some (V.int z),some (nV j)]) e2
 ·obtain ⟨rfl,o,rfl⟩:=h;refine ⟨⟨_,hq,by simp⟩,?_⟩
  rw [Bp];exact ⟨_,rfl,q⟩
def spL (K:Frag) (g:Aa→List Nat):Sp:=fun vs H Q _=>∃ x d n,vs=[x]∧Rep K H x d∧Cod.Few n d∧∀ p H',H p=none→qk H H'→H' p=some (.lst ((g d).map nV))→Q (.ref p) H'
theorem wO {x:V} {d:Aa} {n:Nat} {σ:St} {H:Hp} {k:Nat} {R:It→Hp→Prop} (hx:σ[k]?=some (some x)) (hk:Rep K H x d) (fw:Cod.Few n d)
  (q:∀ a b H1 xs ds fs,qk H H1→SqT K H1 a xs→Reps K H1 xs ds→SqT K H1 b (fs.map V.str)→ds.length=fs.length→fs.length≤4→Cod.zOf d=ds.zip fs→R (Itz K a b) H1):
  qbh K (qw (tSl (qaf K) (qG k) (wP (tC (.int 1))) Vr) (qw (QT K Cod.forms (tOp (rIx K) (qG k) (tC (.int 0)))) zu)) σ H R:=by
 obtain ⟨z,ds,fs,rfl,hf,hl,h4⟩:=fw.form;have hk2:=hk;cases hk with
 | @tup a xs _ hq hs=>
  cases hs with
  | @cons v vs _ _ r rs=>
   refine ⟨_,hx,_,rfl,.inr (.inr ⟨a,_,rfl,hq,ZK _ _,fun p hp=>?_⟩)⟩;rw [qg1];have g1:=qe hp (.tup vs);refine ⟨_,hx,ixr (i:=0) (hk2.same g1) rfl fun u ru=>?_⟩;cases ru;refine ⟨_,_,rfl,hf,fun a3 ha3=>⟨_,_,rfl,⟨_,SqT.of upd_same⟩,⟨_,ha3 _⟩,q _ _ _ _ _ _ g1 (SqT.of upd_same) (rs.same g1) (ha3 _) hl h4 ?_⟩⟩;unfold Cod.zOf;show ds.zip ((Cod.forms.lookup z).getD [])=_;rw [hf];rfl
theorem Qj {r:TS} {D:Ends} {σ:St} {H:Hp} {i:Nat} (h:∀ p,H p=none→r D (σ.set i (some (.ref p))) (upd H p (.lst []))):Jn (VM (v0 zu) (qC i)) r D σ H:=⟨(O0:0≤Af),h⟩
theorem ZP {x:V} {d:Aa} {n:Nat} {σ:St} {H:Hp} {k:Nat} {g:TG} {tb r:TS} {D:Ends} (hx:σ[k]?=some (some x)) (hk:Rep K H x d) (fw:Cod.Few n d)
  (q:∀ a b H1 xs ds fs,qk H H1→SqT K H1 a xs→Reps K H1 xs ds→SqT K H1 b (fs.map V.str)→ds.length=fs.length→fs.length≤4→Cod.zOf d=ds.zip fs→∀ D':Ends,(∀ σ H,r D σ H→D'.nx σ H)→QV (fun _ _ R=>R (Itz K a b) H1) g tb D' σ H1):
  Jn (QV (qbh K (qw (tSl (qaf K) (qG k) (wP (tC (.int 1))) Vr) (qw (QT K Cod.forms (tOp (rIx K) (qG k) (tC (.int 0)))) zu))) g tb) r D σ H:=
 (wO (R:=fun J H1=>QV (fun _ _ R=>R J H1) g tb {D with nx:=r D} σ H1) hx hk fw fun a b H1 xs ds fs g1 ha hr hb hl h4 hz=>q a b H1 xs ds fs g1 ha hr hb hl h4 hz _ fun _ _ h=>h:)
theorem Q6 {zs:List (Aa×Str)} {i:Nat} {p:Aa×Str} {sh:Str} (h:zs[i]?=some p):Cod.yD sh (zs.take (i+1))=Cod.yD sh (zs.take i)++(if (p.2==sh)=true then [Cod.JS p.1] else []):=by
 unfold Cod.yD;rw [Bl,h,List.filter_append,A6]
 congr 1
 show List.map _ (List.filter _ [p])=_;rw [D7];split <;> rfl
theorem Y8 {sh:Str} {σ:St} {H H1:Hp} {Q:VK} {a b:Ac} {xs:List V} {ds:List Aa} {fs:List Str} (ha:SqT K H1 a xs) (hr:Reps K H1 xs ds) (hb:SqT K H1 b (fs.map V.str)) (hl:ds.length=fs.length) (h4:fs.length≤4) (g0:qk H H1)
  (hi:∀ p∈ds.zip fs,p.2=sh→∃ j:Nat,p.1= .int (j:Nat)) (q:∀ p H',H p=none→qk H H'→H' p=some (.lst ((Cod.yD sh (ds.zip fs)).map nV))→Q (.ref p) H'):
  zK (Itz K a b) [none,none] (Y3 K 2 (JW (qC 0) (JW (qC 1) XT))) (Vq (tOp rEq (qG 1) (tC (.str sh)))) (qG 0) σ H1 Q:=by
 have hlen:=hr.length;have hzip:(ds.zip fs).length=ds.length:=by rw [Cg];omega
 refine zd ds.length (fun i ys H'=>qk H1 H'∧ys=(Cod.yD sh ((ds.zip fs).take i)).map nV) ⟨qk.refl _,rfl⟩ (fun i ys H' h=>?_) (As ⋯ (show 4≤Af from O0)) (fun i ys H' hi' h=>?_) (fun ys H' h=>?_)
 ·rw [h.2,Aj,Cod.yD,Aj];exact As (Db _ _) (Bw _ _)
 ·obtain ⟨g,rfl⟩:=h;have hx:xs[i]?=some xs[i]:=Ah ⋯;have hf:fs[i]?=some fs[i]:=Ah ⋯;have hy:(fs.map V.str)[i]?=some (.str fs[i]):=by rw [Au,hf];rfl
  refine ⟨⟨xs,_,_,_,g.sqT ha,g.sqT hb,hx,hy⟩,fun v H2 yl=>?_⟩;obtain ⟨p,x,y,hp,rfl,e1,e2,rfl⟩:=yl;have e3:=hx.symm.trans (e1 xs (g.sqT ha));cases e3;have e4:=hy.symm.trans (e2 _ (g.sqT hb));cases e4;obtain ⟨d,hd,rd⟩:=hr.get hx;have g2:=g.trans (qe hp (.tup [xs[i],.str fs[i]]));have hm:(ds.zip fs)[i]?=some (d,fs[i]):=Bo.mpr ⟨hd,hf⟩;refine ⟨p,_,rfl,SqT.of upd_same,rfl,_,_,rfl,_,_,rfl,rfl,_,rfl,rfl,_,rfl,?_⟩;rw [Q6 hm,v7];refine qN (fun h=>?_) fun h=>?_
  ·have e:fs[i]=sh:=Bd.mp h;obtain ⟨j,hj⟩:=hi _ (A0 hm) e
   replace hj:d= .int (j:Nat):=hj
   subst hj;generalize xs[i]=xi at*;cases rd;refine ⟨_,rfl,g2,?_⟩;rw [if_pos h,A6];rfl
  ·rw [if_neg (by rw [h];exact Ak),Cj]
   exact ⟨g2,rfl⟩
 ·obtain ⟨g,rfl⟩:=h;refine ⟨⟨xs,_,g.sqT ha,g.sqT hb,.inl ⋯⟩,fun D hD=>?_⟩;rw [← hzip,Bp];exact q D _ ((g0.trans g).free hD) ((g0.trans g).trans (qe hD _)) upd_same
theorem VZ (F:Fun K "slots_written" "slots_written" jp f fd) (c:Cs K mg ad) (T:Tb P w K mg):FnOk P w K mg base CX0 1 f fd ["thing"] (spL K Cod.jP):=by
 refine F.ok VN (fun vs H Q E h=>?_) (fun cdv A outer s H vs Q E hr h=>?_)
 ·obtain ⟨x,d,n,rfl,_⟩:=h;rfl
 obtain ⟨x,d,n,rfl,hk,fw,q⟩:=h;refine ⟨_,(qg (qm (qX (sc:=qh jp) (NX:=["thing"]) (N:=["one","shape"]) (js:=[none,none]) (w8 (K:=K) rfl c.zip_ (qa (qZ (WK (K:=K) rfl) (pv 0) (qI qc) Jl) (qa (wF (K:=K) rfl T.CODE_FORMS (pix K (pv 0) qc) (fun _ _=>rfl)) qb))) (fun _ _ _ _ _=>(vq (K:=K) (n:=2) rfl rfl (qM (qx (i:=0) (show (["one","shape"]:List Str).Nodup from ∅) rfl (Or.inl rfl)) (qM (qx (i:=1) (show (["one","shape"]:List Str).Nodup from ∅) rfl (Or.inl rfl)) jr)))) (fun _ _ _ _ _=>(vG (qu ze (pv 1) qj (qq _)))) (fun _ _ _ _ _=>(pv 0)) (Vz rfl rfl) ⟨∅,rfl,∅,∅,rfl,∅⟩))),?_⟩;show qbh K _ (L2.Jz ["thing"] [x]) H (fun J H1=>zK J _ _ _ _ _ H1 _);refine wO (k:=0) rfl hk fw fun a b H1 xs ds fs g1 ha hr hb hl h4 hz=>?_;rw [Cod.jP,hz] at q;exact Y8 ha hr hb hl h4 g1 (fun p hp e=>by
  obtain ⟨j,hj,_⟩:=fw.mid p (by rw [hz];exact hp) (.inr (.inl e))
  exact ⟨j,hj⟩) q
theorem wy (F:Fun K "states_named" "states_named" jC f fd) (c:Cs K mg ad) (T:Tb P w K mg):FnOk P w K mg base CX0 1 f fd ["end"] (spL K Cod.JJ):=by
 refine F.ok wu (fun vs H Q E h=>?_) (fun cdv A outer s H vs Q E hr h=>?_)
 ·obtain ⟨x,d,n,rfl,_⟩:=h;rfl
 obtain ⟨x,d,n,rfl,hk,fw,q⟩:=h;refine ⟨_,(qg (qm (qX (sc:=qh jC) (NX:=["end"]) (N:=["one","shape"]) (js:=[none,none]) (w8 (K:=K) rfl c.zip_ (qa (qZ (WK (K:=K) rfl) (pv 0) (qI qc) Jl) (qa (wF (K:=K) rfl T.CODE_FORMS (pix K (pv 0) qc) (fun _ _=>rfl)) qb))) (fun _ _ _ _ _=>(vq (K:=K) (n:=2) rfl rfl (qM (qx (i:=0) (show (["one","shape"]:List Str).Nodup from ∅) rfl (Or.inl rfl)) (qM (qx (i:=1) (show (["one","shape"]:List Str).Nodup from ∅) rfl (Or.inl rfl)) jr)))) (fun _ _ _ _ _=>(vG (qu ze (pv 1) qj (qq _)))) (fun _ _ _ _ _=>(pv 0)) (Vz rfl rfl) ⟨∅,rfl,∅,∅,rfl,∅⟩))),?_⟩;show qbh K _ (L2.Jz ["end"] [x]) H (fun J H1=>zK J _ _ _ _ _ H1 _);refine wO (k:=0) rfl hk fw fun a b H1 xs ds fs g1 ha hr hb hl h4 hz=>?_;rw [Cod.JJ,hz] at q;exact Y8 ha hr hb hl h4 g1 (fun p hp e=>by
  obtain ⟨j,hj,_⟩:=fw.sts p (by rw [hz];exact hp) e
  exact ⟨j,hj⟩) q
theorem yK {zs:List (Aa×Str)} {i:Nat} {p:Aa×Str} (h:zs[i]?=some p):Cod.rdZ (zs.take (i+1))=Cod.rdZ (zs.take i)++Cod.v8 p.2 p.1:=by
 unfold Cod.rdZ;rw [Bl,h,List.flatMap_append];simp
theorem WM (F:Fun K "slots_read" "slots_read" J0 f fd) (c:Cs K mg ad) (T:Tb P w K mg):FnOk P w K mg base CX0 1 f fd ["thing"] (spL K Cod.zY):=by
 refine F.ok jY (fun vs H Q E h=>?_) (fun cdv A outer s H vs Q E hr h=>?_)
 ·obtain ⟨x,d,n,rfl,_⟩:=h;rfl
 obtain ⟨x,d,n,rfl,hk,fw,q⟩:=h;refine ⟨_,(qf (pst 1 jY.nd (qT qb))
   (qf (ji Bt rfl (w8 (K:=K) rfl c.zip_ (qa (qZ (WK (K:=K) rfl) (pv 0) (qI qc) Jl) (qa (wF (K:=K) rfl T.CODE_FORMS (pix K (pv 0) qc) (fun _ _=>rfl)) qb))) (vq (K:=K) (n:=2) rfl rfl (qM (pgn 2 jY.nd) (qM (pgn 3 jY.nd) jr))) (qg (qF (PW.pt (JQ (qu ze (pv 3) qj (qq _)) (Jf (PW.pt (VS (qu ze (pv 3) qj (qq _)) (vS (qu qc7 (pv 2) J8 (qq _)))))))) (qg (je (WF (K:=K) rfl Bu B6 B5 jg (pv 1) (qa (pv 2) qb)))) (qg (qF (qu ze (pv 3) qj (qq _)) (qg (je (WF (K:=K) rfl Bu PySem.F.slot_list_extend PySem.F.type_list_extend (qdl (K:=K) rfl) (pv 1) (qa (pv 2) qb)))) qv)))))
   (qg (qm (pv 1))))),?_⟩
 refine Qj fun p hp=>?_;have g0:=qe hp (.lst []);have hpl:upd H p (.lst []) p=some (.lst []):=upd_same;generalize upd H p (.lst [])=H0 at g0 hpl ⊢;refine ZP rfl (hk.same g0) fw fun a b H1 xs ds fs g1 ha hr hb hl h4 hz D' hD'=>?_;rw [Cod.zY,hz] at q;have hlen:=hr.length;have hzip:(ds.zip fs).length=ds.length:=by rw [Cg];omega
 have short:∀ i,(Cod.rdZ ((ds.zip fs).take i)).length≤4*i:=fun i=>by
  induction i with
  | zero=>exact An _
  | succ i ih=>
   cases hm:(ds.zip fs)[i]? with
   | none=>
    have e:(ds.zip fs).take (i+1)=(ds.zip fs).take i:=by rw [Bl,hm];simp
    rw [e];omega
   | some p=>
    rw [yK hm,Ax];have:(Cod.v8 p.2 p.1).length≤4:=by
     unfold Cod.v8;split
     ·show 1≤4;decide
     ·split
      ·split
       ·exact C6 _
       ·show 1≤4;decide
      ·split
       ·rename_i h1 h2 h3;obtain ⟨l,e,h4,_⟩:=fw.args p (by rw [hz];exact A0 hm) h3
        rw [e];simpa [Cod.Wz] using h4
       ·exact C6 _
    omega
 refine jn ds.length (fun i σ H'=>(∀ v o,v≠p→H1 v=some o→H' v=some o)∧H' p=some (.lst ((Cod.rdZ ((ds.zip fs).take i)).map nV))∧∃ o1 o2,σ=[some x,some (.ref p),o1,o2]) ⟨fun _ _ _ e=>e,g1 _ _ hpl,_,_,rfl⟩ (fun i σ H' hi h=>?_) (fun σ H' h=>?_)
 ·obtain ⟨g,hp',o1,o2,rfl⟩:=h;have sq:∀ {a:Ac} {ys:List V},SqT K H1 a ys→SqT K H' a ys:=fun {a ys} h=>by
   rcases h with (h | ⟨o,h⟩) | h
   ·exact .inl (.inl (g _ _ (fun z=>by rw [z,g1 _ _ hpl] at h;cases h) h))
   ·exact .inl (.inr ⟨o,g _ _ (fun z=>by rw [z,g1 _ _ hpl] at h;cases h) h⟩)
   ·exact .inr h
  have hx:xs[i]?=some xs[i]:=Ah ⋯;have hf:fs[i]?=some fs[i]:=Ah ⋯;have hy:(fs.map V.str)[i]?=some (.str fs[i]):=by rw [Au,hf];rfl
  refine ⟨⟨xs,_,_,_,sq ha,sq hb,hx,hy⟩,fun v H2 yl N hN=>?_⟩;obtain ⟨t,x',y,ht,rfl,e1,e2,rfl⟩:=yl;have e3:=hx.symm.trans (e1 xs (sq ha));cases e3;have e4:=hy.symm.trans (e2 _ (sq hb));cases e4;obtain ⟨d',hd,rd⟩:=hr.get hx;have hm:(ds.zip fs)[i]?=some (d',fs[i]):=Bo.mpr ⟨hd,hf⟩;have hmem:(d',fs[i])∈Cod.zOf d:=by rw [hz];exact A0 hm
  have nep:p≠t:=fun z=>by rw [← z,hp'] at ht;cases ht
  have g2:∀ v o,v≠p→H1 v=some o→upd H' t (.tup [xs[i],.str fs[i]]) v=some o:=fun v o hv e=>(qe ht _) _ _ (g v o hv e);have hp2:upd H' t (.tup [xs[i],.str fs[i]]) p=some (.lst ((Cod.rdZ ((ds.zip fs).take i)).map nV)):=by rw [qo nep];exact hp'
  have rd2:SqT K (upd H' t (.tup [xs[i],.str fs[i]])) t [xs[i],.str fs[i]]:=SqT.of upd_same;have tup2:∀ {a:Ac} {ys:List V},SqT K H1 a ys→SqT K (upd H' t (.tup [xs[i],.str fs[i]])) a ys:=fun h=>(qe ht _).sqT (sq h);have sh:=short i;generalize upd H' t (.tup [xs[i],.str fs[i]])=H3 at g2 hp2 rd2 tup2 ⊢;refine ⟨t,_,rfl,rd2,rfl,_,_,rfl,_,_,rfl,rfl,?_⟩;have fin:∀ (us:List Nat),us=Cod.v8 fs[i] d'→N [some x,some (.ref p),some xs[i],some (.str fs[i])] (upd H3 p (.lst ((Cod.rdZ ((ds.zip fs).take i)).map nV++us.map nV))):=fun us e=>by
   refine hN _ _ ⟨fun v o hv e=>by rw [qo hv];exact g2 v o hv e,?_,_,_,rfl⟩
   rw [upd_same,yK hm,A6,e]
  have same:Cod.v8 fs[i] d'=[]→N [some x,some (.ref p),some xs[i],some (.str fs[i])] H3:=fun e=>by
   refine hN _ _ ⟨g2,?_,_,_,rfl⟩;rw [hp2,yK hm,e,Cj]
  have len1:((Cod.rdZ ((ds.zip fs).take i)).map nV).length<Af:=by rw [Aj];exact Cb (show _≤100 from ⋯) O0
  by_cases c1:fs[i]="of"
  ·obtain ⟨j,hj,_⟩:=fw.mid _ hmem (.inl c1)
   replace hj:d'= .int (j:Nat):=hj
   subst hj;generalize xs[i]=xi at*;cases rd;rw [c1] at fin ⊢;refine ⟨_,rfl,rfl,_,rfl,jx (show decide _=true from Am rfl) (jk ?_)⟩;exact ⟨_,rfl,.inl ⟨rfl,_,SqL.of hp2⟩,_,rfl,_,_,_,rfl,rfl,hp2,len1,fin [j] rfl⟩
  refine ⟨_,rfl,rfl,_,rfl,jo (show decide _=false from Ao fun z=>c1 (V.str.inj z)) ?_⟩
  by_cases c2:fs[i]="last"
  ·cases hn:Cod.Wp d' with
   | true=>
    have e:d'= .none:=by
     cases d' <;> first | rfl | cases hn
    subst e;generalize xs[i]=xi at*;cases rd;rw [c2] at same ⊢;refine ⟨_,rfl,rfl,_,rfl,jx (show decide _=true from Am rfl) ⟨_,rfl,rfl,_,rfl,JT ?_⟩⟩;exact ⟨_,rfl,rfl,_,rfl,jo (show decide _=false from Ao fun z=>by have:=V.str.inj z;revert this;decide) (same rfl)⟩
   | false=>
    obtain ⟨j,hj,_⟩:=fw.mid _ hmem (.inr (.inr ⟨c2,hn⟩))
    replace hj:d'= .int (j:Nat):=hj
    subst hj;generalize xs[i]=xi at*;cases rd;rw [c2] at fin ⊢;refine ⟨_,rfl,rfl,_,rfl,jx (show decide _=true from Am rfl) ⟨_,rfl,rfl,_,rfl,jk ?_⟩⟩;exact ⟨_,rfl,.inl ⟨rfl,_,SqL.of hp2⟩,_,rfl,_,_,_,rfl,rfl,hp2,len1,fin [j] rfl⟩
  refine ⟨_,rfl,rfl,_,rfl,jo (show decide _=false from Ao fun z=>c2 (V.str.inj z)) (JT ?_)⟩
  by_cases c3:fs[i]="args"
  ·obtain ⟨l,hj,l4,_⟩:=fw.args _ hmem c3
   replace hj:d'= .tuple (l.map fun j=> .int (j:Nat)):=hj
   subst hj;have er:Cod.v8 fs[i] (.tuple (l.map fun j:Nat=> .int (j:Int)))=l:=by
    rw [c3];show (l.map fun j:Nat=>PyData.int (j:Int)).map Cod.JS=l;rw [Bm];exact (C4 fun j _=>Bf j).trans (List.map_id l)
   refine ⟨_,rfl,rfl,_,rfl,jx (show decide _=true from Am (by rw [c3])) ?_⟩
   generalize xs[i]=xi at*;cases rd with
   | @tup b2 ys _ hq2 hs2=>
    have hs3:Reps K H1 ys ((l.map fun j:Nat=>(j:Int)).map PyData.int):=by rw [Bm];exact hs2
    obtain rfl:=V7 hs3;refine ⟨_,rfl,.inl ⟨rfl,_,SqL.of hp2⟩,_,rfl,_,_,_,_,rfl,rfl,hp2,tup2 hq2,?_,?_⟩
    ·rw [Aj,Aj,Aj];exact As (show _≤100 from ⋯) O0
    ·have:=fin l er.symm;rw [Bm];exact this
  refine ⟨_,rfl,rfl,_,rfl,jo (show decide _=false from Ao fun z=>c3 (V.str.inj z)) (same ?_)⟩;unfold Cod.v8;rw [if_neg c1,if_neg c2,if_neg c3]
 ·obtain ⟨g,hp',o1,o2,rfl⟩:=h;refine ⟨⟨xs,fs.map V.str,?_,?_,.inl ⋯⟩,?_⟩
  ·rcases ha with (h | ⟨o,h⟩) | h
   ·exact .inl (.inl (g _ _ (fun z=>by rw [z,g1 _ _ hpl] at h;cases h) h))
   ·exact .inl (.inr ⟨o,g _ _ (fun z=>by rw [z,g1 _ _ hpl] at h;cases h) h⟩)
   ·exact .inr h
  ·rcases hb with (h | ⟨o,h⟩) | h
   ·exact .inl (.inl (g _ _ (fun z=>by rw [z,g1 _ _ hpl] at h;cases h) h))
   ·exact .inl (.inr ⟨o,g _ _ (fun z=>by rw [z,g1 _ _ hpl] at h;cases h) h⟩)
   ·exact .inr h
  ·rw [← hzip,Bp] at hp';exact hD' _ _ ⟨_,rfl,q p H' hp (fun v o e=>g v o (qr e hp) (g1 _ _ (g0 _ _ e))) hp'⟩
end
def f3 (nd wr:Nat) (l:Ac):List (Str×V):=[("needed",nV nd),("written",nV wr),("ways",.ref l)]
theorem qi5 (nd wr:Nat) (l:Ac):(f3 nd wr l).lookup ("needed":Str)=some (nV nd):=rfl
theorem qdy (nd wr:Nat) (l:Ac):(f3 nd wr l).lookup ("written":Str)=some (nV wr):=by rfl
theorem qi2 (nd wr:Nat) (l:Ac):(f3 nd wr l).lookup ("ways":Str)=some (.ref l):=by rfl
theorem qi4 (nd wr x:Nat) (l:Ac):zN "needed" (nV x) (f3 nd wr l)=f3 x wr l:=by rfl
theorem qi3 (nd wr x:Nat) (l:Ac):zN "written" (nV x) (f3 nd wr l)=f3 nd x l:=by rfl
theorem qi6 (l:Ac):zN "ways" (.ref l) (zN "written" (nV 0) (zN "needed" (nV 0) []))=f3 0 0 l:=by rfl
inductive Wys (K:Frag) (H:Hp):List V→List (Nat×Nat)→Prop
 | nil:Wys K H [] []
 | cons {a:Ac} {t b:Nat} {vs:List V} {ws:List (Nat×Nat)}:SqT K H a [nV t,nV b]→Wys K H vs ws→Wys K H (.ref a::vs) ((t,b)::ws)
section
variable {P:Program} {w:World} {K:Frag} {mg:Str→Option Ab} {base:Heap} {f:Ac} {fd:FuncData} {ad:Ad}
theorem Wys.mono {H H':Hp} (g:∀ {a:Ac} {xs:List V},SqT K H a xs→SqT K H' a xs):∀ {vs:List V} {ws:List (Nat×Nat)},Wys K H vs ws→Wys K H' vs ws
 | _,_,.nil=> .nil
 | _,_,.cons h t=> .cons (g h) (t.mono g)
theorem Wys.snoc {H:Hp} {a:Ac} {t b:Nat} (h:SqT K H a [nV t,nV b]):∀ {vs:List V} {ws:List (Nat×Nat)},Wys K H vs ws→Wys K H (vs++[.ref a]) (ws++[(t,b)])
 | _,_,.nil=> .cons h .nil
 | _,_,.cons x r=> .cons x (r.snoc h)
theorem Wys.length {H:Hp}:∀ {vs:List V} {ws:List (Nat×Nat)},Wys K H vs ws→vs.length=ws.length
 | _,_,.nil=>rfl
 | _,_,.cons _ r=>by rw [Bj,Bj,r.length]
theorem Wys.get {H:Hp}:∀ {vs:List V} {ws:List (Nat×Nat)} {i:Nat} {p:Nat×Nat},Wys K H vs ws→ws[i]?=some p→∃ a,vs[i]?=some (.ref a)∧SqT K H a [nV p.1,nV p.2]
 | _,_,0,_,.cons h _,e=>by
  cases e;exact ⟨_,rfl,h⟩
 | _,_,_+1,_,.cons _ r,e=>r.get (by simpa using e)
 | _,_,0,_,.nil,e=>by cases e
 | _,_,_+1,_,.nil,e=>by cases e
def zU (p q:Ac) (H H':Hp):Prop:=∀ v o,v≠p→v≠q→H v=some o→H' v=some o
theorem zU.trans {p q:Ac} {H H1 H2:Hp} (a:zU p q H H1) (b:zU p q H1 H2):zU p q H H2:=fun v o h1 h2 e=>b v o h1 h2 (a v o h1 h2 e)
theorem zU.of {p q:Ac} {H H':Hp} (g:qk H H'):zU p q H H':=fun v o _ _ e=>g v o e
theorem zU.p {p q:Ac} {H:Hp} (o:HO):zU p q H (upd H p o):=fun v o h1 _ e=>by rw [qo h1];exact e
theorem zU.q {p q:Ac} {H:Hp} (o:HO):zU p q H (upd H q o):=fun v o _ h2 e=>by rw [qo h2];exact e
theorem zU.sqT {p q:Ac} {H H':Hp} (g:zU p q H H') {C dx:Ac} {fs:List (Str×V)} {vs:List V} (hp:H p=some (.ins C dx fs)) (hq:H q=some (.lst vs)) {a:Ac} {xs:List V} (h:SqT K H a xs):SqT K H' a xs:=by
 have n1:∀ o,H a=some o→(∀ C dx fs,o≠ .ins C dx fs)→(∀ vs,o≠ .lst vs)→a≠p∧a≠q:=fun o e z1 z2=>⟨fun z=>z1 C dx fs (by rw [z,hp] at e;exact (Bh e).symm),fun z=>z2 vs (by rw [z,hq] at e;exact (Bh e).symm)⟩
 rcases h with (h | ⟨o,h⟩) | h
 ·obtain ⟨h1,h2⟩:=n1 _ h (fun _ _ _ z=>by cases z) (fun _ z=>by cases z)
  exact .inl (.inl (g _ _ h1 h2 h))
 ·obtain ⟨h1,h2⟩:=n1 _ h (fun _ _ _ z=>by cases z) (fun _ z=>by cases z)
  exact .inl (.inr ⟨o,g _ _ h1 h2 h⟩)
 ·exact .inr h
theorem JN {p q:Ac} {H0 H H':Hp} (g:qk H0 H) (n1:H0 p=none) (n2:H0 q=none) (b:zU p q H H'):qk H0 H':=fun v o e=>b v o (qr e n1) (qr e n2) (g v o e)
def Xo (K:Frag) (C:Ac):Sp:=fun vs H Q _=>∃ p a l dx nd wr wl,vs=[.ref p,.ref a]∧H p=some (.ins C dx (f3 nd wr wl))∧SqL K H a (l.map nV)∧(∀ j∈l,j<1000)∧Q .non (upd H p (.ins C dx (f3 (nd||| Cod.dif (Cod.bitsL l) wr) wr wl)))
theorem wA (F:Fun K "need_slots" "Passage.need_slots" Jr f fd) (c:Cs K mg ad) (d_bits_of:Def P w K mg base 1 "bits_of" ["slots"] (yA K)):FnOk P w K mg base CX0 2 f fd ["self","slots"] (Xo K ad.Passage):=by
 refine F.ok wx (fun vs H Q E h=>?_) (fun cdv A outer s H vs Q E hr h=>?_)
 ·obtain ⟨p,a,l,dx,nd,wr,wl,rfl,_⟩:=h;rfl
 obtain ⟨p,a,l,dx,nd,wr,wl,rfl,hp,ha,hl,q⟩:=h;refine ⟨_,(qg (W4 (pv 0) (qH qa0 (pdf d_bits_of (qa (pv 1) qb)) (Zf QK (VW (pv 0) rfl))) qe4)),?_⟩;refine ⟨_,rfl,p,_,dx,_,_,rfl,hp,c.cl,c.aN,qi5 _ _ _,?_⟩;refine ⟨_,rfl,_,_,rfl,ha,hl,?_⟩;refine ⟨_,rfl,p,_,dx,_,_,rfl,hp,c.cl,c.aW,qdy _ _ _,_,rfl,_,_,rfl,rfl,?_⟩;refine ⟨_,_,rfl,rfl,_,_,hp,(show (3:Nat)<1000 from O0),?_⟩;show Q .non (upd H p (.ins ad.Passage dx (zN "needed" (.int (Builtin.bitOr (nd:Int) (Builtin.bitAnd (Cod.bitsL l:Int) (Builtin.bitNot (wr:Int))))) (f3 nd wr wl))));rw [Cod.qby,Cod.Zl,qi4];exact q
theorem qii {a b:Nat} {H:Hp} {Q:VK} (q:Q (nV (a||| b)) H):rI0 (fun i j=> .int (Builtin.bitOr i j)) (nV a) (nV b) H Q:=⟨_,_,rfl,rfl,by
 show Q (.int (Builtin.bitOr (a:Int) (b:Int))) H;rw [Cod.Zl];exact q⟩
structure Pg (K:Frag) (C:Ac) (H:Hp) (p dx wl:Ac) (nd wr:Nat) (ws:List (Nat×Nat)):Prop where
 ob:H p=some (.ins C dx (f3 nd wr wl))
 ls:∃ vs,H wl=some (.lst vs)∧Wys K H vs ws
theorem Pg.same {C:Ac} {H H':Hp} {p dx wl:Ac} {nd wr:Nat} {ws:List (Nat×Nat)} (g:qk H H') (h:Pg K C H p dx wl nd wr ws):Pg K C H' p dx wl nd wr ws:=by
 obtain ⟨a,vs,b,r⟩:=h;exact ⟨g _ _ a,vs,g _ _ b,r.mono g.sqT⟩
theorem Pg.setN {C:Ac} {H:Hp} {p dx wl:Ac} {nd wr:Nat} {ws:List (Nat×Nat)} (nd' wr':Nat) (h:Pg K C H p dx wl nd wr ws):Pg K C (upd H p (.ins C dx (f3 nd' wr' wl))) p dx wl nd' wr' ws:=by
 obtain ⟨a,vs,b,r⟩:=h;have ne:wl≠p:=fun z=>by rw [z,a] at b;cases b
 exact ⟨upd_same,vs,by rw [qo ne];exact b,r.mono fun h=>(zU.p (p:=p) (q:=wl) _).sqT a b h⟩
theorem Pg.add {C:Ac} {H:Hp} {p dx wl a:Ac} {nd wr t b:Nat} {ws:List (Nat×Nat)} {vs:List V} (h:Pg K C H p dx wl nd wr ws) (hl:H wl=some (.lst vs)) (ha:SqT K H a [nV t,nV b]):Pg K C (upd H wl (.lst (vs++[.ref a]))) p dx wl nd wr (ws++[(t,b)]):=by
 obtain ⟨o,vs',hl',r⟩:=h;rw [hl] at hl';cases hl';have ne:p≠wl:=fun z=>by rw [← z,o] at hl;cases hl
 have g:∀ {a:Ac} {xs:List V},SqT K H a xs→SqT K (upd H wl (.lst (vs++[.ref a]))) a xs:=fun h=>(zU.q (p:=p) (q:=wl) _).sqT o hl h;have g':∀ {c:Ac} {xs:List V},SqT K H c xs→SqT K (upd H wl (.lst (vs++[.ref a]))) c xs:=fun h=>(zU.q (p:=p) (q:=wl) _).sqT o hl h;exact ⟨by rw [qo ne];exact o,_,upd_same,(r.mono g').snoc (g' ha)⟩
def qeu (K:Frag) (C:Ac):Sp:=fun vs H Q _=>∃ p x d n dx wl nd wr ws H0,vs=[.ref p,x]∧qk H0 H∧H0 p=none∧H0 wl=none∧Rep K H0 x d∧Cod.Few n d∧Pg K C H p dx wl nd wr ws∧ws.length≤20∧∀ H',zU p wl H H'→Pg K C H' p dx wl (nd||| Cod.dif (Cod.bitsL (Cod.zY d)) wr) wr (ws++Cod.zG d wr)→Q .non H'
theorem YT (F:Fun K "end_so" "Passage.end_so" Vj f fd) (c:Cs K mg ad) (d_bits_of:Def P w K mg base 1 "bits_of" ["slots"] (yA K)) (d_slots_read:Def P w K mg base 1 "slots_read" ["thing"] (spL K Cod.zY)) (d_slots_written:Def P w K mg base 1 "slots_written" ["thing"] (spL K Cod.jP)) (d_states_named:Def P w K mg base 1 "states_named" ["end"] (spL K Cod.JJ)) (d_P_need_slots:MethN P w K mg base ad.Passage 2 "need_slots" ["self","slots"] (Xo K ad.Passage)):FnOk P w K mg base CX0 3 f fd ["self","end"] (qeu K ad.Passage):=by
 refine F.ok JD (fun vs H Q E h=>?_) (fun cdv A outer s H vs Q E hr h=>?_)
 ·obtain ⟨p,x,d,n,dx,wl,nd,wr,ws,H0,rfl,_⟩:=h;rfl
 obtain ⟨p,x,d,n,dx,wl,nd,wr,ws,H0,rfl,s0,s1,s2,hx,fw,pg,h20,q⟩:=h;refine ⟨_,(qf (je (qat (pv 0) d_P_need_slots (hr.mono (by first | decide | omega)) (qa (pdf d_slots_read (qa (pv 1) qb)) qb)))
   (qf (pst 2 JD.nd (qH qe0 (VW (pv 0) rfl) (pdf d_bits_of (qa (pdf d_slots_written (qa (pv 1) qb)) qb))))
   (qg (ji Bt rfl (Ze (K:=K) rfl c.enumerate_ (qa (pdf d_states_named (qa (pv 1) qb)) qb)) (vq (K:=K) (n:=2) rfl rfl (qM (pgn 3 JD.nd) (qM (pgn 4 JD.nd) jr))) (qg (je (WF (K:=K) rfl Bu B6 B5 jg (VW (pv 0) rfl) (qa (qi (qa (pv 4) (qa (Wb (qu ze (pv 3) qc (qq _)) (pv 2) (VW (pv 0) rfl)) qb))) qb)))))))),?_⟩
 refine ⟨_,rfl,p,dx,_,rfl,pg.ob,rfl,_,rfl,_,_,_,rfl,hx.same s0,fw,fun a H1 ha g1 hl1=>?_⟩;have pg1:=pg.same g1;refine ⟨p,a,_,dx,nd,wr,wl,rfl,pg1.ob,SqL.of hl1,fw.rd,?_⟩;have pg2:=pg1.setN (nd||| Cod.dif (Cod.bitsL (Cod.zY d)) wr) wr
 obtain ⟨vs1,hw1,_⟩:=pg1.ls;have g2:zU p wl H (upd H1 p (.ins ad.Passage dx (f3 (nd||| Cod.dif (Cod.bitsL (Cod.zY d)) wr) wr wl))):=(zU.of g1).trans (zU.p _)
 have hx2:=hx.same (JN s0 s1 s2 g2);generalize upd H1 p (.ins ad.Passage dx (f3 (nd||| Cod.dif (Cod.bitsL (Cod.zY d)) wr) wr wl))=H2 at pg2 g2 hx2 ⊢
 generalize nd||| Cod.dif (Cod.bitsL (Cod.zY d)) wr=nd2 at pg2 q ⊢
 refine ⟨_,rfl,p,_,dx,_,_,rfl,pg2.ob,c.cl,c.aW,qdy _ _ _,?_⟩;refine ⟨_,rfl,_,_,_,rfl,hx2,fw,fun a3 H3 ha3 g3 hl3=>⟨_,_,rfl,SqL.of hl3,fw.wr,qii ?_⟩⟩;have pg3:=pg2.same g3;refine ⟨_,rfl,_,_,_,rfl,hx2.same g3,fw,fun a4 H4 ha4 g4 hl4=>⟨a4,rfl,⟨_,SqL.of hl4⟩,?_⟩⟩;have pg4:=pg3.same g4;obtain ⟨vs4,hw4,_⟩:=pg4.ls;have g04:zU p wl H H4:=g2.trans (zU.of (g3.trans g4));have n4:a4≠p∧a4≠wl:=by
  obtain ⟨vs3,hw3,_⟩:=pg3.ls;exact ⟨(qr pg3.ob ha4).symm,(qr hw3 ha4).symm⟩
 have few:=fw.few;refine jn (Cod.JJ d).length (fun i σ H'=>zU p wl H4 H'∧Pg K ad.Passage H' p dx wl nd2 wr (ws++(Cod.zG d wr).take i)∧∃ o3 o4,σ=[some (.ref p),some x,some (nV (wr||| Cod.bitsL (Cod.jP d))),o3,o4]) ⟨fun _ _ _ _ e=>e,by simpa using pg4,_,_,rfl⟩ (fun i σ H' hi h=>?_) (fun σ H' h=>?_)
 ·obtain ⟨gg,pg5,o3,o4,rfl⟩:=h;obtain ⟨t,ht⟩:∃ t,(Cod.JJ d)[i]?=some t:=⟨_,Ah hi⟩;have hv:((Cod.JJ d).map nV)[i]?=some (nV t):=by rw [Au,ht];rfl
  have hl5:H' a4=some (.lst ((Cod.JJ d).map nV)):=gg _ _ n4.1 n4.2 hl4;refine ⟨⟨_,_,SqL.of hl5,hv⟩,fun v H5 yl N hN=>?_⟩;obtain ⟨b,y,hb,rfl,e1,rfl⟩:=yl;have e2:=e1 _ (SqL.of hl5);rw [hv] at e2;cases e2;have g5:=qe hb (.tup [.int (i:Nat),nV t]);have pg6:=pg5.same g5;have gg6:=gg.trans (zU.of (p:=p) (q:=wl) g5);have hb6:SqT K (upd H' b (.tup [.int (i:Nat),nV t])) b [.int (i:Nat),nV t]:=SqT.of upd_same;generalize upd H' b (.tup [.int (i:Nat),nV t])=H6 at pg6 gg6 hb6 ⊢;refine ⟨b,_,rfl,hb6,rfl,_,_,rfl,_,_,rfl,rfl,?_⟩;obtain ⟨vs6,hw6,r6⟩:=pg6.ls;have hlen:=r6.length;refine ⟨_,rfl,p,_,dx,_,_,rfl,pg6.ob,c.cl,c.aY,qi2 _ _ _,.inl ⟨rfl,_,SqL.of hw6⟩,?_⟩;have hew:(Cod.zG d wr)[i]?=some (t,if i=0 then wr||| Cod.bitsL (Cod.jP d) else wr):=by
   unfold Cod.zG;rw [List.getElem?_mapIdx,ht];rfl
  have fin:∀ z:Nat,z=(if i=0 then wr||| Cod.bitsL (Cod.jP d) else wr)→2≤Af∧∀ l,H6 l=none→yL (.ref wl) [.ref l] (upd H6 l (.tup [nV t,nV z])) (fun _ H'=>N [some (.ref p),some x,some (nV (wr||| Cod.bitsL (Cod.jP d))),some (.int (i:Nat)),some (nV t)] H'):=fun z hz=>by
   refine ⟨O0,fun l hl=>?_⟩;have g7:=qe hl (.tup [nV t,nV z]);have pg7:=pg6.same g7;have hw7:=g7 _ _ hw6;have hl7:SqT K (upd H6 l (.tup [nV t,nV z])) l [nV t,nV z]:=SqT.of upd_same;have gg7:=gg6.trans (zU.of (p:=p) (q:=wl) g7);generalize upd H6 l (.tup [nV t,nV z])=H7 at g7 pg7 hw7 hl7 gg7 ⊢;refine ⟨wl,vs6,.ref l,rfl,rfl,hw7,?_,hN _ _ ⟨gg7.trans (zU.q _),?_,_,_,rfl⟩⟩
   ·rw [hlen,Ax];have:=Bw i (Cod.zG d wr);exact Cb (show _≤100 from ⋯) O0
   ·have:=pg7.add hw7 hl7;rw [Du] at this;rw [Bl,hew,← hz];exact this
  by_cases hi0:i=0
  ·refine ⟨_,rfl,?_⟩;refine ⟨_,rfl,rfl,_,rfl,jx (show decide _=true from Am (by rw [hi0];rfl)) ⟨_,rfl,?_⟩⟩
   exact fin _ (if_pos hi0).symm
  ·refine ⟨_,rfl,?_⟩;refine ⟨_,rfl,rfl,_,rfl,jo (show decide _=false from Ao fun z=>hi0 (by have:=V.int.inj z;omega)) ⟨_,rfl,p,_,dx,_,_,rfl,pg6.ob,c.cl,c.aW,qdy _ _ _,?_⟩⟩
   exact fin _ (if_neg hi0).symm
 ·obtain ⟨gg,pg5,o3,o4,rfl⟩:=h;have hl5:H' a4=some (.lst ((Cod.JJ d).map nV)):=gg _ _ n4.1 n4.2 hl4;refine ⟨⟨_,SqL.of hl5,by rw [Aj];exact An _⟩,?_⟩
  have e:(Cod.zG d wr).take (Cod.JJ d).length=Cod.zG d wr:=Cn (by unfold Cod.zG;rw [List.length_mapIdx];exact An _)
  rw [e] at pg5;exact q H' (g04.trans gg) pg5
theorem Wys.same {H H':Hp} {vs:List V} {ws:List (Nat×Nat)} (g:qk H H') (h:Wys K H vs ws):Wys K H' vs ws:=h.mono g.sqT
theorem qed {x:V} {cts:List Aa} {n:Nat} {σ:St} {H:Hp} {Q:VK} (r:Rep K H x (.tuple cts)) (hc:∀ c∈cts,∃ a b,∃ j:Nat,c= .tuple [a,b,.int (j:Nat)]∧j<n) (hl:cts.length≤20)
  (q:∀ H' D vs,qk H H'→H D=none→H' D=some (.lst vs)→Wys K H' vs (Cod.ctW cts)→Q (.ref D) H'):
  y6 K (fun _ H R=>R x H) σ H fun it H1=>zK it [none] (qC 0) Jw (VL (qw (tOp (rIx K) (qG 0) (tC (.int 2))) (qw (tC (.int 0)) zu))) σ H1 Q:=by
 cases r with
 | @tup a xs _ hq hs=>
  have hlen:=hs.length;refine .inr (.inl ⟨_,rfl,⟨_,hq⟩,zd cts.length (fun i ys H'=>qk H H'∧Wys K H' ys (Cod.ctW (cts.take i))) ⟨qk.refl _,.nil⟩ (fun i ys H' h=>?_) (As hl O0) (fun i ys H' hi h=>?_) (fun ys H' h=>?_)⟩)
  ·rw [h.2.length,Cod.ctW,Aj];exact Bw _ _
  ·obtain ⟨g,ws⟩:=h;have hx:xs[i]?=some xs[i]:=Ah ⋯;refine ⟨⟨xs,_,g.sqT hq,hx⟩,fun v H2 yl=>?_⟩;obtain ⟨rfl,hv⟩:=yl;have e:=hx.symm.trans (hv xs (g.sqT hq));cases e;obtain ⟨d,hd,rd⟩:=hs.get hx;obtain ⟨d1,d2,j,rfl,_⟩:=hc d (A0 hd);refine ⟨_,rfl,ixr (i:=2) (rd.same g) rfl fun u ru=>?_⟩;cases ru;refine ⟨(O0:2≤Af),fun l hl=>⟨g.trans (qe hl _),?_⟩⟩;have:=(ws.same (qe hl (.tup [nV j,nV 0]))).snoc (SqT.of upd_same);have e:Cod.ctW (cts.take (i+1))=Cod.ctW (cts.take i)++[(j,0)]:=by
    unfold Cod.ctW;rw [Bl,hd,A6];rfl
   rw [e];exact this
  ·obtain ⟨g,ws⟩:=h;rw [Bp] at ws;exact ⟨⟨xs,g.sqT hq,⋯⟩,fun D hD=>q _ D ys (g.trans (qe hD _)) (g.free hD) upd_same (ws.same (qe hD _))⟩
theorem qgk {x:V} {ds:List Aa} {i:Nat} {d:Aa} {H0 H:Hp} {Q:VK} (r:Rep K H0 x (.tuple ds)) (g:qk H0 H) (h:ds[i]?=some d) (q:∀ v,Rep K H0 v d→Q v H):rIx K x (.int (i:Nat)) H Q:=by
 cases r with
 | @tup a xs _ hq hs=>
  have hl:=hs.length;obtain ⟨hi,_⟩:=A2.mp h;have hx:=Ah (l:=xs) (i:=i) ⋯;obtain ⟨d',hd,rv⟩:=hs.get hx;rw [h] at hd;cases hd;exact .inr (.inl ⟨_,_,(i:Nat),_,rfl,rfl,g.sqT hq,zT hx,q _ rv⟩)
def Q0 (K:Frag) (C:Ac):Sp:=fun vs H Q _=>∃ p x d n dx H0,vs=[.ref p,x]∧H p=some (.ins C dx [])∧qk H0 H∧H0 p=none∧Rep K H0 x d∧Cod.Sok n d∧∀ H' wl wr,(∀ v o,v≠p→H v=some o→H' v=some o)→Pg K C H' p dx wl (Cod.qW d).1 wr (Cod.qW d).2→H wl=none→Q .non H'
theorem Qr {rows:List Aa} {i:Nat} {r:Aa} (h:rows[i]?=some r):(rows.take (i+1)).foldl Cod.qE (0,0)=Cod.qE ((rows.take i).foldl Cod.qE (0,0)) r:=by
 rw [Bl,h,Eo];rfl
theorem Qe (F:Fun K "__init__" "Passage.__init__" Vx f fd) (c:Cs K mg ad) (d_bits_of:Def P w K mg base 1 "bits_of" ["slots"] (yA K)) (d_slots_read:Def P w K mg base 1 "slots_read" ["thing"] (spL K Cod.zY)) (d_slots_written:Def P w K mg base 1 "slots_written" ["thing"] (spL K Cod.jP)) (d_P_need_slots:MethN P w K mg base ad.Passage 2 "need_slots" ["self","slots"] (Xo K ad.Passage)) (d_P_end_so:MethN P w K mg base ad.Passage 3 "end_so" ["self","end"] (qeu K ad.Passage)):FnOk P w K mg base CX0 4 f fd ["self","state"] (Q0 K ad.Passage):=by
 refine F.ok WZ (fun vs H Q E h=>?_) (fun cdv A outer s H vs Q E hr h=>?_)
 ·obtain ⟨p,x,d,n,dx,H0,rfl,_⟩:=h;rfl
 obtain ⟨p,x,d,n,dx,H0,rfl,hp,s0,s1,hx,sok,q⟩:=h;refine ⟨_,(qf (Xx (pv 0) qc rfl)
   (qf (Xx (pv 0) qc rfl)
   (qf (Xx (pv 0) (qX (sc:=qh Vx) (NX:=["self","state","row"]) (N:=["one"]) (js:=[none]) (Jx (K:=K) rfl (pix K (pv 1) (zA c.CATCHES))) (fun _ _ _ _ _=>(qx (i:=0) (show (["one"]:List Str).Nodup from ∅) rfl (Or.inl rfl))) (fun _ _ _ _ _=>zn) (fun _ _ _ _ _=>(qi (qa (pix K (pv 0) qc) (qa qc qb)))) (qB rfl) ⟨∅,rfl,∅,∅,rfl,∅⟩) rfl)
   (qf (ji Bt rfl (Jx (K:=K) rfl (pix K (pv 1) (zA c.ROWS))) (pgn 2 WZ.nd) (qf (je (qat (pv 0) d_P_need_slots (hr.mono (by first | decide | omega)) (qa (pdf d_slots_read (qa (pv 2) qb)) qb)))
   (qg (W4 (pv 0) (pdf d_bits_of (qa (pdf d_slots_written (qa (pv 2) qb)) qb)) qe4))))
   (qg (je (qat (pv 0) d_P_end_so (hr.mono (by first | decide | omega)) (qa (pix K (pv 1) (zA c.END)) qb)))))))),?_⟩
 obtain ⟨rows,e,cts,rfl,l1,l2,fr,fe,fc⟩:=sok.ex;refine ⟨_,rfl,p,_,dx,_,rfl,hp,c.cl,c.aN,(show (0:Nat)<1000 from O0),?_⟩;refine ⟨_,rfl,p,_,dx,_,rfl,upd_same,c.cl,c.aW,(show (1:Nat)<1000 from O0),?_⟩;have b2:∀ v o,v≠p→H v=some o→upd (upd H p (.ins ad.Passage dx (zN "needed" (nV 0) []))) p (.ins ad.Passage dx (zN "written" (nV 0) (zN "needed" (nV 0) []))) v=some o:=fun v o hv h=>by
  rw [qo hv,qo hv];exact h
 have p2:upd (upd H p (.ins ad.Passage dx (zN "needed" (nV 0) []))) p (.ins ad.Passage dx (zN "written" (nV 0) (zN "needed" (nV 0) []))) p=some (.ins ad.Passage dx (zN "written" (nV 0) (zN "needed" (nV 0) []))):=upd_same;have n2:∀ v,H v=none→v≠p→upd (upd H p (.ins ad.Passage dx (zN "needed" (nV 0) []))) p (.ins ad.Passage dx (zN "written" (nV 0) (zN "needed" (nV 0) []))) v=none:=fun v h hv=>by
  rw [qo hv,qo hv];exact h
 have n2':∀ v,upd (upd H p (.ins ad.Passage dx (zN "needed" (nV 0) []))) p (.ins ad.Passage dx (zN "written" (nV 0) (zN "needed" (nV 0) []))) v=none→H v=none:=fun v h=>by
  by_cases hv:v=p
  ·rw [hv,upd_same] at h;cases h
  ·rw [qo hv,qo hv] at h;exact h
 generalize upd (upd H p (.ins ad.Passage dx (zN "needed" (nV 0) []))) p (.ins ad.Passage dx (zN "written" (nV 0) (zN "needed" (nV 0) [])))=H2 at b2 p2 n2 n2' ⊢;have s2:qk H0 H2:=fun v o h=>b2 v o (qr h s1) (s0 v o h);refine ⟨_,rfl,ixr (i:=2) (hx.same s2) rfl fun u ru=>qed ru fc l2 fun H3 wl vs g3 hwl hl3 ws3=>?_⟩;have p3:=g3 _ _ p2;refine ⟨_,rfl,p,_,dx,_,rfl,p3,c.cl,c.aY,(show (2:Nat)<1000 from O0),?_⟩;rw [qi6];have nw:wl≠p:=fun z=>by rw [z,p3] at hl3;cases hl3
 have b4:zU p wl H3 (upd H3 p (.ins ad.Passage dx (f3 0 0 wl))):=zU.p _;have pg4:Pg K ad.Passage (upd H3 p (.ins ad.Passage dx (f3 0 0 wl))) p dx wl 0 0 (Cod.ctW cts):=⟨upd_same,vs,by rw [qo nw];exact hl3,ws3.mono fun h=>b4.sqT p3 hl3 h⟩
 generalize upd H3 p (.ins ad.Passage dx (f3 0 0 wl))=H4 at b4 pg4 ⊢;have hw0:H wl=none:=n2' wl hwl;have s0w:H0 wl=none:=s0.free hw0;have s4:qk H0 H4:=JN (s2.trans g3) s1 s0w b4;have out:∀ {H':Hp},zU p wl H4 H'→∀ v o,v≠p→H v=some o→H' v=some o:=fun b v o hv h=>b v o hv (qr h hw0) (b4 v o hv (qr h hw0) (g3 _ _ (b2 v o hv h)));refine ⟨_,rfl,qgk (i:=0) hx s4 rfl fun u0 ru0=>?_⟩;cases ru0 with
 | @tup ra rxs _ rq rs=>
  have rlen:=rs.length;have rT:∀ {H':Hp},zU p wl H4 H'→SqT K H' ra rxs:=fun b=>(JN s4 s1 s0w b).sqT rq;refine .inr (.inl ⟨ra,rfl,⟨_,s4.sqT rq⟩,jn rows.length (fun i σ H'=>zU p wl H4 H'∧Pg K ad.Passage H' p dx wl ((rows.take i).foldl Cod.qE (0,0)).1 ((rows.take i).foldl Cod.qE (0,0)).2 (Cod.ctW cts)∧∃ o,σ=[some (.ref p),some x,o]) ⟨fun _ _ _ _ h=>h,pg4,_,rfl⟩ (fun i σ H' hi h=>?_) (fun σ H' h=>?_)⟩)
  ·obtain ⟨bb,pg,o,rfl⟩:=h;obtain ⟨rv,hrv⟩:∃ v,rxs[i]?=some v:=⟨_,Ah ⋯⟩;obtain ⟨rd,hrd,rrow⟩:=rs.get hrv;refine ⟨⟨rxs,_,rT bb,hrv⟩,fun v H5 yl N hN=>?_⟩;obtain ⟨rfl,hv⟩:=yl;have e2:=hrv.symm.trans (hv rxs (rT bb));cases e2;have fw:=fr rd (A0 hrd);have s5:qk H0 H5:=JN s4 s1 s0w bb;generalize hst:(rows.take i).foldl Cod.qE (0,0)=st at pg;obtain ⟨nd,wr⟩:=st;refine ⟨_,rfl,p,dx,_,rfl,pg.ob,rfl,_,rfl,_,_,_,rfl,rrow.same s5,fw,fun a6 H6 ha6 g6 hl6=>?_⟩;have pg6:=pg.same g6;refine ⟨p,a6,_,dx,nd,wr,wl,rfl,pg6.ob,SqL.of hl6,fw.rd,?_⟩;have pg7:=pg6.setN (nd||| Cod.dif (Cod.bitsL (Cod.zY rd)) wr) wr
   have b7:zU p wl H4 (upd H6 p (.ins ad.Passage dx (f3 (nd||| Cod.dif (Cod.bitsL (Cod.zY rd)) wr) wr wl))):=(bb.trans (zU.of g6)).trans (zU.p _)
   generalize upd H6 p (.ins ad.Passage dx (f3 (nd||| Cod.dif (Cod.bitsL (Cod.zY rd)) wr) wr wl))=H7 at pg7 b7 ⊢
   have s7:qk H0 H7:=JN s4 s1 s0w b7;refine ⟨_,rfl,p,_,dx,_,_,rfl,pg7.ob,c.cl,c.aW,qdy _ _ _,?_⟩;refine ⟨_,rfl,_,_,_,rfl,rrow.same s7,fw,fun a8 H8 ha8 g8 hl8=>⟨_,_,rfl,SqL.of hl8,fw.wr,_,_,rfl,rfl,?_⟩⟩;have pg8:=pg7.same g8;refine ⟨dx,_,pg8.ob,(show (3:Nat)<1000 from O0),?_⟩;refine hN _ _ ⟨(b7.trans (zU.of g8)).trans (zU.p _),?_,_,rfl⟩;rw [Qr hrd,hst];have:=pg8.setN (nd||| Cod.dif (Cod.bitsL (Cod.zY rd)) wr) (wr||| Cod.bitsL (Cod.jP rd))
   show Pg K ad.Passage (upd H8 p (.ins ad.Passage dx (zN "written" (.int (Builtin.bitOr (wr:Int) (Cod.bitsL (Cod.jP rd):Nat))) (f3 (nd||| Cod.dif (Cod.bitsL (Cod.zY rd)) wr) wr wl)))) p dx wl _ _ _
   rw [Cod.Zl,qi3];exact this
  ·obtain ⟨bb,pg,o,rfl⟩:=h;refine ⟨⟨rxs,rT bb,⋯⟩,?_⟩;rw [Bp] at pg;have s5:qk H0 H':=JN s4 s1 s0w bb;refine ⟨_,rfl,p,dx,_,rfl,pg.ob,rfl,_,rfl,qgk (i:=1) hx s5 rfl fun z rz=>?_⟩;exact ⟨p,z,e,n,dx,wl,_,_,_,H0,rfl,s5,s1,s0w,rz,fe,pg,by rw [Cod.ctW,Aj];exact l2,fun H6 b6 pg6=>q H6 wl _ (out (bb.trans b6)) pg6 hw0⟩
def kvL (l:Cod.Dc):List (Key×V):=l.map fun p=>((Sum.inl (p.1:Int):Key),nV p.2)
def kvB (l:List Nat):List (Key×V):=l.map fun k:Nat=>((Sum.inl (k:Int):Key),V.bl true)
theorem y2 (a b:Nat):(decide ((Sum.inl (a:Int):Key)=Sum.inl (b:Int)))=(a==b):=by
 rw [Bn,A4,Bd];exact ⟨fun h=>by have:=Sum.inl.inj h;omega,fun h=>by rw [h]⟩
theorem qeo (l:Cod.Dc) (k:Nat):zL (kvL l) (Sum.inl (k:Int))=(Cod.zI l k).map nV:=by
 unfold zL kvL Cod.zI;rw [List.find?_map];have e:((fun kv:Key×V=>decide (kv.1=Sum.inl (k:Int))) ∘ fun p:Nat×Nat=>((Sum.inl (p.1:Int):Key),nV p.2))=fun p=>p.1==k:=funext fun p=>y2 _ _;rw [e];cases l.find? fun p=>p.1==k <;> rfl
theorem qif (l:Cod.Dc) (k b:Nat):qS (kvL l) (Sum.inl (k:Int)) (nV b)=kvL (Cod.putL l k b):=by
 unfold qS kvL Cod.putL;rw [Ev];have e:((fun kv:Key×V=>decide (kv.1=Sum.inl (k:Int))) ∘ fun p:Nat×Nat=>((Sum.inl (p.1:Int):Key),nV p.2))=fun p=>p.1==k:=funext fun p=>y2 _ _;rw [e]
 by_cases h:(l.any fun p=>p.1==k)=true
 ·rw [if_pos h,if_pos h,Bm,Bm];refine C4 fun p _=>?_;show (if (Sum.inl (p.1:Int):Key)=Sum.inl (k:Int) then _ else _)=_
  by_cases hp:p.1=k
  ·rw [if_pos (by rw [hp])]
   show _=((Sum.inl ((if p.1=k then (p.1,b) else p).1:Int):Key),nV (if p.1=k then (p.1,b) else p).2)
   rw [if_pos hp]
  ·rw [if_neg (fun z=>hp (by have:=Sum.inl.inj z;omega))]
   show _=((Sum.inl ((if p.1=k then (p.1,b) else p).1:Int):Key),nV (if p.1=k then (p.1,b) else p).2)
   rw [if_neg hp]
 ·rw [if_neg h,if_neg h,A6];rfl
theorem qez (l:List Nat) (k:Nat):qS (kvB l) (Sum.inl (k:Int)) (.bl true)=kvB (if k∈l then l else l++[k]):=by
 unfold qS kvB;rw [Ev];have e:((fun kv:Key×V=>decide (kv.1=Sum.inl (k:Int))) ∘ fun j:Nat=>((Sum.inl (j:Int):Key),V.bl true))=fun j=>j==k:=funext fun p=>y2 _ _;rw [e];have e2:(l.any fun j=>j==k)=decide (k∈l):=by
  rw [Bn,Cd,A4];exact ⟨fun ⟨x,h,z⟩=>Bd.mp z▸h,fun h=>⟨k,h,Bd.mpr rfl⟩⟩
 rw [e2]
 by_cases h:k∈l
 ·rw [Am h,if_pos rfl,if_pos h,Bm];refine C4 fun j _=>?_;show (if (Sum.inl (j:Int):Key)=Sum.inl (k:Int) then _ else _)=_
  split <;> rfl
 ·rw [Ao h,if_neg Ak,if_neg h,A6];rfl
theorem qba (l:Cod.Dc):(kvL l).length=l.length:=Aj ..
inductive Psl (K:Frag) (C:Ac) (H:Hp):List V→Cod.Psg→Prop
 | nil:Psl K C H [] []
 | cons {p dx wl:Ac} {nd wr:Nat} {ws:List (Nat×Nat)} {vs:List V} {ps:Cod.Psg}:Pg K C H p dx wl nd wr ws→Psl K C H vs ps→Psl K C H (.ref p::vs) ((nd,ws)::ps)
theorem Psl.mono {C:Ac} {H H':Hp} (g:∀ {p dx wl:Ac} {nd wr:Nat} {ws:List (Nat×Nat)},Pg K C H p dx wl nd wr ws→Pg K C H' p dx wl nd wr ws):∀ {vs:List V} {ps:Cod.Psg},Psl K C H vs ps→Psl K C H' vs ps
 | _,_,.nil=> .nil
 | _,_,.cons h r=> .cons (g h) (r.mono g)
theorem Psl.snoc {C:Ac} {H:Hp} {p dx wl:Ac} {nd wr:Nat} {ws:List (Nat×Nat)} (h:Pg K C H p dx wl nd wr ws):∀ {vs:List V} {ps:Cod.Psg},Psl K C H vs ps→Psl K C H (vs++[.ref p]) (ps++[(nd,ws)])
 | _,_,.nil=> .cons h .nil
 | _,_,.cons x r=> .cons x (r.snoc h)
theorem Psl.length {C:Ac} {H:Hp}:∀ {vs:List V} {ps:Cod.Psg},Psl K C H vs ps→vs.length=ps.length
 | _,_,.nil=>rfl
 | _,_,.cons _ r=>by rw [Bj,Bj,r.length]
theorem Psl.get {C:Ac} {H:Hp}:∀ {vs:List V} {ps:Cod.Psg} {i:Nat} {q:Nat×List (Nat×Nat)},Psl K C H vs ps→ps[i]?=some q→∃ p dx wl wr,vs[i]?=some (.ref p)∧Pg K C H p dx wl q.1 wr q.2
 | _,_,0,_,.cons h _,e=>by
  cases e;exact ⟨_,_,_,_,rfl,h⟩
 | _,_,_+1,_,.cons _ r,e=>r.get (by simpa using e)
 | _,_,0,_,.nil,e=>by cases e
 | _,_,_+1,_,.nil,e=>by cases e
theorem zy {H H':Hp} {p:Ac} {o:HO} (g:qk H H') (n:H p=none):qk H (upd H' p o):=fun v u e=>by
 rw [qo (qr e n)];exact g v u e
def qhn (K:Frag) (C:Ac):Sp:=fun vs H Q _=>∃ a vs' ps W,vs=[.ref a]∧SqL K H a vs'∧Psl K C H vs' ps∧ps.length≤2000∧Cod.Pok ps W∧∀ l H' D,qk H H'→H D=none→H' D=some (.dK (kvL l))→Cod.Aw ps W l→Cod.Xg ps l [] []→Q (.ref D) H'
structure Wa (K:Frag) (H H':Hp) (D:Ac) (ps:Cod.Psg) (W:Nat) (l:Cod.Dc):Prop where
 g:qk H H'
 n:H D=none
 d:H' D=some (.dK (kvL l))
 aw:Cod.Aw ps W l
def has (l:Cod.Dc) (k:Nat):Prop:=∃ b,Cod.zI l k=some b
theorem Zy {l:Cod.Dc} {k t x:Nat} (h:has l k):has (Cod.stp l t x) k:=by
 obtain ⟨b,hb⟩:=h;obtain ⟨c,hc,_⟩:=Cod.Yn (t:=t) (x:=x) hb;exact ⟨c,hc⟩
structure Rnd (K:Frag) (H:Hp) (ps:Cod.Psg) (W:Nat) (D B cl:Ac) (ch:List Nat) (n0:Nat) (H':Hp) (l:Cod.Dc) (beh:List Nat):Prop where
 wa:Wa K H H' D ps W l
 hB:H' B=some (.dK (kvB beh))
 nB:H B=none
 ne:D≠B
 hc:H' cl=some (.lst (ch.map nV))
 kc:∀ k∈ch,has l k
 kb:∀ k∈beh,has l k
 nb:beh.Nodup
 lf:Cod.WT ps.length W l+(if beh=[] then 0 else 1)≤n0
section
variable {H H':Hp} {ps:Cod.Psg} {W:Nat} {D B cl:Ac} {ch beh:List Nat} {n0:Nat} {l:Cod.Dc}
theorem Rnd.lenB (h2:ps.length≤2000) (h:Rnd K H ps W D B cl ch n0 H' l beh):beh.length≤2000:=by
 refine As (Grf.nodup_len ps.length beh h.nb fun k hk=>?_) h2;obtain ⟨b,hb⟩:=h.kb k hk;exact (h.wa.aw.bd k b hb).1
theorem Rnd.put {n t b br:Nat} {p:Nat×List (Nat×Nat)} (pok:Cod.Pok ps W) (h:Rnd K H ps W D B cl ch n0 H' l beh) (hn:Cod.zI l n=some b) (hp:ps[n]?=some p) (hw:(t,br)∈p.2) (hc:Cod.chg l t (b||| br)=true):
  Rnd K H ps W D B cl ch n0 (upd (upd H' D (.dK (qS (kvL l) (Sum.inl (t:Int)) (nV (Cod.vI l t (b||| br)))))) B (.dK (qS (kvB beh) (Sum.inl (t:Int)) (.bl true)))) (Cod.stp l t (b||| br)) (if t∈beh then beh else beh++[t]):=by
 have es:Cod.stp l t (b||| br)=Cod.putL l t (Cod.vI l t (b||| br)):=by unfold Cod.stp;rw [if_pos hc]
 have n1:cl≠D:=fun z=>by have e:=h.hc;rw [z,h.wa.d] at e;cases e
 have n2:cl≠B:=fun z=>by have e:=h.hc;rw [z,h.hB] at e;cases e
 have lt:=Cod.qbb pok h.wa.aw hn hp hw hc;have lf:=h.lf;refine ⟨⟨zy (zy h.wa.g h.wa.n) h.nB,h.wa.n,?_,h.wa.aw.stp pok hn hp hw⟩,?_,h.nB,h.ne,?_,fun k hk=>Zy (h.kc k hk),fun k hk=>?_,?_,?_⟩
 ·rw [qo h.ne,upd_same,qif,es]
 ·rw [upd_same,qez]
 ·rw [qo n2,qo n1];exact h.hc
 ·have:k∈beh∨k=t:=by
   split at hk
   ·exact .inl hk
   ·rcases Az.mp hk with z | z
    ·exact .inl z
    ·exact .inr (Ay.mp z)
  rcases this with z | z
  ·exact Zy (h.kb k z)
  ·rw [z];exact ⟨_,Cod.vi⟩
 ·split
  ·exact h.nb
  ·rename_i ht;exact En.mpr ⟨h.nb,by simp,fun a ha c hc=>by
    rw [Ay.mp hc];exact fun z=>ht (z▸ha)⟩
 ·have e1:∀ x:List Nat,(if x=[] then 0 else 1)≤1:=fun x=>by split <;> omega
  have:=e1 (if t∈beh then beh else beh++[t])
  omega
end
theorem qg9 {a b:Nat} {H:Hp} {Q:VK} (q:Q (nV (a&&& b)) H):ipI (fun i j=>Builtin.bitAnd i j) (nV a) (nV b) H Q:=⟨_,_,rfl,rfl,by
 show Q (.int (Builtin.bitAnd (a:Int) (b:Int))) H;rw [Cod.qci];exact q⟩
theorem qbz {H:Hp} {D:Ac} {l:Cod.Dc} (k:Nat) (h:H D=some (.dK (kvL l))):jL H D (nV k) ((Cod.zI l k).map nV):=by
 rw [← qeo];exact jL.k (k:=Sum.inl (k:Int)) h
theorem qgy {H:Hp} {D:Ac} {l:Cod.Dc} {k b:Nat} (h:H D=some (.dK (kvL l))) (e:Cod.zI l k=some b):jL H D (nV k) (some (nV b)):=by
 have:=qbz k h
 rwa [e] at this
seal L2.PE L2.PS L2.PSs L2.PA L2.PT
theorem VY (F:Fun K "written_ahead" "written_ahead" Jc f fd) (c:Cs K mg ad):FnOk P w K mg base CX0 1 f fd ["passages"] (qhn K ad.Passage):=by
 refine F.ok qO (fun vs H Q E h=>?_) (fun cdv A outer s H vs Q E hr h=>?_)
 ·obtain ⟨a,vs',ps,W,rfl,_⟩:=h;rfl
 obtain ⟨a,vs',ps,W,rfl,ha,psl,h2000,pok,q⟩:=h;have hu:=wo hr;refine ⟨_,(qf (pst 1 qO.nd (vW (zl qc qc vU) rfl rfl (by intro z;cases z) O0))
   (qf (pst 2 qO.nd (qT (qa qc qb)))
   (qf (YE Bt (pt_k (K:=K) rfl (pv 2)) (qf (pst 3 qO.nd qau)
   (qf (ji Bt rfl (Jx (K:=K) rfl (pv 2)) (pgn 4 qO.nd) (qg (ji Bt rfl (Jx (K:=K) rfl (VW (pix K (pv 0) (pv 4)) rfl)) (vq (K:=K) (n:=2) rfl rfl (qM (pgn 5 qO.nd) (qM (pgn 6 qO.nd) jr))) (qf (pst 7 qO.nd (qH qe0 (jt hu (pv 1) (pv 4) (fun _ _=>rfl)) (pv 6)))
   (qf (qF (Xv (qf0 hu (pv 5) (pv 1))) (qg (qan (i:=7) qO.nd rfl (by first | exact Or.inl rfl | exact Or.inr rfl) (jt hu (pv 1) (pv 5) (fun _ _=>rfl)) qgp)) qv)
   (qg (qF (PW.pt (JQ (Xv (W5 hu (pv 5) (pv 1))) (Jf (qu VA (pv 7) (jt hu (pv 1) (pv 5) (fun _ _=>rfl)) (qq _))))) (qf (vT hu (pv 1) (pv 5) (pv 7) rfl)
   (qg (vT hu (pv 3) (pv 5) zJ rfl))) qv)))))))
   (qg (pst 2 qO.nd (zr (XY rfl) (by rfl) c.list_ wK (qa (pv 3) qb)))))))
   (qg (qm (pv 1)))))),?_⟩
 clear hu hr;have plen:=psl.length;refine fun D hD=>⟨upd_same,[(Sum.inl 0,nV 0)],rfl,O0,?_⟩;have w0:Wa K H (upd (upd H D (.dK [])) D (.dK (jb [] [(Sum.inl 0,nV 0)]))) D ps W [(0,0)]:=⟨zy (zy (qk.refl _) hD) hD,hD,upd_same,(Cod.ZN pok).1⟩;generalize upd (upd H D (.dK [])) D (.dK (jb [] [(Sum.inl 0,nV 0)]))=H1 at w0 ⊢;refine ⟨(O0:1≤Af),fun cl0 hcl=>?_⟩;refine ⟨fun m σ H'=>∃ l ch cl o3 o4 o5 o6 o7,Wa K H H' D ps W l∧H' cl=some (.lst (ch.map nV))∧H cl=none∧Cod.Xg ps l ch []∧(∀ k∈ch,has l k)∧m=2*Cod.WT ps.length W l+(if ch=[] then 0 else 1)∧σ=[some (.ref a),some (.ref D),some (.ref cl),o3,o4,o5,o6,o7],⟨_,[(0,0)],[0],cl0,none,none,none,none,none,⟨w0.g.trans (qe hcl _),w0.n,(qe hcl _) _ _ w0.d,w0.aw⟩,upd_same,w0.g.free hcl,(Cod.ZN pok).2,fun k hk=>⟨0,by rw [Ay.mp hk];rfl⟩,rfl,rfl⟩,?_⟩
 rintro m σ H' ⟨l,ch,cl,o3,o4,o5,o6,o7,wa,hcl,ncl,allc,kc,rfl,rfl⟩;refine ⟨_,rfl,!(ch.map nV).isEmpty,.inl ⟨_,SqL.of hcl,rfl⟩,qN (fun h=>?_) fun h=>?_⟩
 ·have hne:ch≠[]:=fun z=>by rw [z] at h;cases h
  rw [if_neg hne];refine qhg fun N hN=>?_;refine fun B hB=>?_;have nBD:D≠B:=qr wa.d hB;have r0:Rnd K H ps W D B cl ch (Cod.WT ps.length W l) (upd H' B (.dK [])) l []:=⟨⟨wa.g.trans (qe hB _),wa.n,(qe hB _) _ _ wa.d,wa.aw⟩,upd_same,wa.g.free hB,nBD,(qe hB _) _ _ hcl,kc,fun k hk=>by (cases hk),List.nodup_nil,An _⟩
  generalize upd H' B (.dK [])=H2 at r0 ⊢;show Jn (QV (y6 K (qG 2)) _ _) _ _ [some (.ref a),some (.ref D),some (.ref cl),some (.ref B),o4,o5,o6,o7] H2;refine jB fun D1 hD1 _=>⟨_,rfl,.inl ⟨cl,rfl,⟨_,SqL.of r0.hc⟩,jn ch.length (fun i σ H3=>∃ l2 beh p4 p5 p6 p7,Rnd K H ps W D B cl ch (Cod.WT ps.length W l) H3 l2 beh∧Cod.Xg ps l2 (ch.drop i) beh∧σ=[some (.ref a),some (.ref D),some (.ref cl),some (.ref B),p4,p5,p6,p7]) ⟨l,[],_,_,_,_,r0,allc,rfl⟩ (fun i σ H3 hi h=>?_) (fun σ H3 h=>?_)⟩⟩
  ·obtain ⟨l2,beh,p4,p5,p6,p7,r,al,rfl⟩:=h;obtain ⟨n,hn⟩:∃ n,ch[i]?=some n:=⟨_,Ah hi⟩;have hv:(ch.map nV)[i]?=some (nV n):=by rw [Au,hn];rfl
   refine ⟨⟨_,_,SqL.of r.hc,hv⟩,fun x H4 yl N2 hN2=>?_⟩;obtain ⟨rfl,e⟩:=yl;have e:=e _ (SqL.of r.hc);rw [hv] at e;cases e;have hk:has l2 n:=r.kc n (A0 hn);obtain ⟨b0,hb0⟩:=hk;obtain ⟨pp,hpp⟩:∃ p,ps[n]?=some p:=⟨_,Ah (r.wa.aw.bd n b0 hb0).1⟩;obtain ⟨pa,pdx,pwl,pwr,hpv,pg⟩:=psl.get hpp;obtain ⟨wvs,hwl,wys⟩:=pg.ls;have wlen:=wys.length;have hat:atI vs' (nV n |>fun _=>(n:Int))=some (.ref pa):=zT hpv;refine ⟨_,rfl,_,rfl,.inl ⟨a,vs',(n:Nat),.ref pa,rfl,rfl,r.wa.g.seq ha,hat,pa,_,pdx,_,_,rfl,r.wa.g _ _ pg.ob,c.cl,c.aY,qi2 _ _ _,.inl ⟨pwl,rfl,⟨_,SqL.of (r.wa.g _ _ hwl)⟩,?_⟩⟩⟩;have par:Cod.WI ps l2 (ch.drop (i+1)) beh n 0:=by
    rw [qbv hn] at al;exact Cod.WI.of al
   refine jn pp.2.length (fun j σ H5=>∃ l3 beh3 p5 p6 p7,Rnd K H ps W D B cl ch (Cod.WT ps.length W l) H5 l3 beh3∧Cod.WI ps l3 (ch.drop (i+1)) beh3 n j∧σ=[some (.ref a),some (.ref D),some (.ref cl),some (.ref B),some (nV n),p5,p6,p7]) ⟨l2,beh,_,_,_,r,par,rfl⟩ (fun j σ H5 hj h=>?_) (fun σ H5 h=>?_)
   ·obtain ⟨l3,beh3,p5,p6,p7,r3,par3,rfl⟩:=h;obtain ⟨⟨t,br⟩,hw⟩:∃ w,pp.2[j]?=some w:=⟨_,Ah hj⟩;have hwm:=A0 hw;obtain ⟨ta,hta,htq⟩:=wys.get hw;refine ⟨⟨_,_,SqL.of (r3.wa.g _ _ hwl),hta⟩,fun x H6 yl N3 hN3=>?_⟩;obtain ⟨rfl,e⟩:=yl;have e:=e _ (SqL.of (r3.wa.g _ _ hwl));rw [hta] at e;cases e;refine ⟨ta,_,rfl,r3.wa.g.sqT htq,rfl,_,_,rfl,_,_,rfl,rfl,?_⟩;obtain ⟨b,hb⟩:has l3 n:=r3.kc n (A0 hn);have same:Cod.chg l3 t (b||| br)=false→∀ z:V,N3 [some (.ref a),some (.ref D),some (.ref cl),some (.ref B),some (nV n),some (nV t),some (nV br),some z] H6:=fun hc z=>by
     have pn:=par3.next hb hpp hw
     have es:Cod.stp l3 t (b||| br)=l3:=by unfold Cod.stp;rw [if_neg (by rw [hc];exact Ak)]
     rw [es,if_neg (by rw [hc];exact Ak)] at pn
     exact hN3 _ _ ⟨l3,beh3,_,_,_,r3,pn,rfl⟩
    have l2000:(kvL l3).length<Af:=by
     rw [qba];exact Cb (As r3.wa.aw.len h2000) O0
    have b2000:(kvB beh3).length<Af:=by
     unfold kvB;rw [Aj];exact Cb (r3.lenB h2000) O0
    have chgd:Cod.chg l3 t (b||| br)=true→∀ z:V,N3 [some (.ref a),some (.ref D),some (.ref cl),some (.ref B),some (nV n),some (nV t),some (nV br),some z] (upd (upd H6 D (.dK (qS (kvL l3) (Sum.inl (t:Int)) (nV (Cod.vI l3 t (b||| br)))))) B (.dK (qS (kvB beh3) (Sum.inl (t:Int)) (.bl true)))):=fun hc z=>by
     have pn:=par3.next hb hpp hw
     rw [if_pos hc] at pn;exact hN3 _ _ ⟨_,_,_,_,_,r3.put pok hb hpp hwm hc,pn,rfl⟩
    have hB2:∀ o,upd H6 D o B=some (.dK (kvB beh3)):=fun o=>by
     rw [qo r3.ne.symm];exact r3.hB
    refine ⟨_,rfl,_,rfl,D,nV b,rfl,qgy r3.wa.d hb,_,rfl,qii ?_⟩;have dt:=qbz t r3.wa.d;cases ht:Cod.zI l3 t with
    | none=>
     rw [ht] at dt;have hc:Cod.chg l3 t (b||| br)=true:=by unfold Cod.chg;rw [ht]
     have hnb:Cod.vI l3 t (b||| br)=b||| br:=by unfold Cod.vI;rw [ht]
     have ch2:=chgd hc (nV (b||| br))
     rw [hnb] at ch2;refine ⟨_,rfl,_,rfl,D,none,rfl,dt,_,rfl,JT ?_⟩;refine ⟨_,rfl,_,rfl,D,none,rfl,dt,_,rfl,jk (jk ?_)⟩;refine ⟨_,rfl,_,rfl,_,rfl,D,_,rfl,wC.k (k:=Sum.inl (t:Int)) r3.wa.d l2000,?_⟩;exact ⟨_,rfl,_,rfl,B,_,rfl,wC.k (k:=Sum.inl (t:Int)) (hB2 _) b2000,ch2⟩
    | some cc=>
     rw [ht] at dt;have hcc:Cod.chg l3 t (b||| br)=(((b||| br)&&& cc) !=cc):=by unfold Cod.chg;rw [ht]
     have hnb:Cod.vI l3 t (b||| br)=(b||| br)&&& cc:=by unfold Cod.vI;rw [ht]
     refine ⟨_,rfl,_,rfl,D,_,rfl,dt,_,rfl,jk ?_⟩;refine ⟨_,rfl,_,rfl,_,rfl,D,nV cc,rfl,dt,qg9 ?_⟩;refine ⟨_,rfl,_,rfl,D,_,rfl,dt,_,rfl,JT ?_⟩;refine ⟨_,rfl,_,rfl,_,rfl,D,nV cc,rfl,dt,rfl,_,rfl,?_⟩;have ee:(!decide (nV ((b||| br)&&& cc)=nV cc))=(((b||| br)&&& cc) !=cc):=by
      rw [Bn,Bool.not_eq_true',decide_eq_false_iff_not,bne_iff_ne];exact not_congr ⟨fun h=>by have:=V.int.inj h;omega,fun h=>by rw [h]⟩
     refine qN (fun h=>?_) fun h=>?_
     ·have hc:Cod.chg l3 t (b||| br)=true:=hcc.trans (ee.symm.trans h)
      have ch2:=chgd hc (nV ((b||| br)&&& cc))
      rw [hnb] at ch2;refine ⟨_,rfl,_,rfl,_,rfl,D,_,rfl,wC.k (k:=Sum.inl (t:Int)) r3.wa.d l2000,?_⟩;exact ⟨_,rfl,_,rfl,B,_,rfl,wC.k (k:=Sum.inl (t:Int)) (hB2 _) b2000,ch2⟩
     ·exact same (hcc.trans (ee.symm.trans h)) _
   ·obtain ⟨l3,beh3,p5,p6,p7,r3,par3,rfl⟩:=h;refine ⟨⟨_,SqL.of (r3.wa.g _ _ hwl),⋯⟩,hN2 _ _ ⟨l3,beh3,_,_,_,_,r3,Cod.WI.all hpp par3,rfl⟩⟩
  ·obtain ⟨l2,beh,p4,p5,p6,p7,r,al,rfl⟩:=h;refine ⟨⟨_,SqL.of r.hc,by rw [Aj];exact An _⟩,hD1 _ _ ?_⟩
   have hlB:=r.lenB h2000;refine ⟨_,rfl,B,_,beh.map fun k:Nat=>(k:Int),rfl,r.hB,?_,by rw [Aj];omega,fun c2 hc2=>?_⟩
   ·unfold kvB;rw [Bm,Bm];rfl
   ·have g2:=qe hc2 (.lst ((beh.map fun k:Nat=>(k:Int)).map V.int));refine hN _ _ ⟨2*Cod.WT ps.length W l2+(if beh=[] then 0 else 1),?_,l2,beh,c2,_,_,_,_,_,⟨r.wa.g.trans g2,r.wa.n,g2 _ _ r.wa.d,r.wa.aw⟩,by rw [upd_same,Bm];rfl,r.wa.g.free hc2,fun k b hk=>?_,r.kb,rfl,rfl⟩
    ·have:=r.lf
     by_cases hb:beh=[]
     ·rw [if_pos hb] at this ⊢;omega
     ·rw [if_neg hb] at this ⊢;omega
    ·rw [List.drop_length] at al;rcases al k b hk with z | z | z
     ·cases z
     ·exact .inl z
     ·exact .inr (.inr z)
 ·have hch:ch=[]:=by
   cases ch with
   | nil=>rfl
   | cons _ _=>exact absurd h (by simp)
  subst hch;exact ⟨_,rfl,q l H' D wa.g wa.n wa.d wa.aw allc⟩
theorem Psl.same {C:Ac} {H H':Hp} {vs:List V} {ps:Cod.Psg} (g:qk H H') (h:Psl K C H vs ps):Psl K C H' vs ps:=h.mono fun p=>p.same g
theorem Psl.updD {C:Ac} {H:Hp} {vs:List V} {ps:Cod.Psg} {D:Ac} {kvs:List (Key×V)} (o:HO) (hD:H D=some (.dK kvs)) (h:Psl K C H vs ps):Psl K C (upd H D o) vs ps:=h.mono fun {p dx wl nd wr ws} q=>by
 obtain ⟨a,vs,b,r⟩:=q;have n1:p≠D:=fun z=>by rw [z,hD] at a;cases a
 have n2:wl≠D:=fun z=>by rw [z,hD] at b;cases b
 refine ⟨by rw [qo n1];exact a,vs,by rw [qo n2];exact b,r.mono fun h=>?_⟩
 rename_i c xs;have nc:∀ u,H c=some u→(∀ k,u≠ .dK k)→c≠D:=fun u e z w=>by
  rw [w,hD] at e;exact z _ (Bh e).symm
 rcases h with (h | ⟨o,h⟩) | h
 ·exact .inl (.inl (by rw [qo (nc _ h fun k z=>by cases z)];exact h))
 ·exact .inl (.inr ⟨o,by rw [qo (nc _ h fun k z=>by cases z)];exact h⟩)
 ·exact .inr h
def qhp (K:Frag):Sp:=fun vs H Q _=>∃ x m,vs=[x]∧Rep K H x (Cod.Mv.data m)∧1≤m.states.length∧m.states.length≤2000∧(∀ d∈m.states,Cod.Sok m.states.length d)∧∀ b H',(b=true↔Cod.RwM m)→qk H H'→Q (.bl b) H'
theorem qb6 {x:V} {sts:List Aa} {n:Nat} {σ:St} {H:Hp} {Q:VK} {C:Ac} (r:Rep K H x (.tuple sts)) (hc:∀ d∈sts,Cod.Sok n d) (hl:sts.length≤2000)
  (q:∀ H' D vs,qk H H'→H' D=some (.lst vs)→Psl K C H' vs (sts.map Cod.qW)→Q (.ref D) H'):
  y6 K (fun _ H R=>R x H) σ H fun it H1=>zK it [none] (qC 0) Jw (QU C (Q0 K C) [] E0 (qw (qG 0) zu)) σ H1 Q:=by
 cases r with
 | @tup a xs _ hq hs=>
  have hlen:=hs.length;refine .inr (.inl ⟨_,rfl,⟨_,hq⟩,zd sts.length (fun i ys H'=>qk H H'∧Psl K C H' ys ((sts.take i).map Cod.qW)) ⟨qk.refl _,.nil⟩ (fun i ys H' h=>?_) (As hl O0) (fun i ys H' hi h=>?_) (fun ys H' h=>?_)⟩)
  ·rw [h.2.length,Aj];exact Bw _ _
  ·obtain ⟨g,ps⟩:=h;have hx:xs[i]?=some xs[i]:=Ah ⋯;refine ⟨⟨xs,_,g.sqT hq,hx⟩,fun v H2 yl=>?_⟩;obtain ⟨rfl,hv⟩:=yl;have e:=hx.symm.trans (hv xs (g.sqT hq));cases e;obtain ⟨d,hd,rd⟩:=hs.get hx;refine ⟨_,rfl,fun p dx hp hdx ne=>?_⟩;have g1:qk H2 (upd (upd H2 dx (.own p)) p (.ins C dx [])):=zy (zy (qk.refl _) hdx) hp;refine ⟨p,_,d,n,dx,H2,rfl,upd_same,g1,hp,rd.same g,hc d (A0 hd),fun H3 wl wr b3 pg _=>⟨rfl,?_⟩⟩;have g3:qk H2 H3:=fun v o e=>b3 v o (qr e hp) (g1 v o e);refine ⟨g.trans g3,?_⟩;have e:(sts.take (i+1)).map Cod.qW=(sts.take i).map Cod.qW++[Cod.qW d]:=by
    rw [Bl,hd,A6];rfl
   rw [e];exact (ps.same g3).snoc pg
  ·obtain ⟨g,ps⟩:=h;rw [Bp] at ps;exact ⟨⟨xs,g.sqT hq,⋯⟩,fun D hD=>q _ D ys (g.trans (qe hD _)) upd_same (ps.same (qe hD _))⟩
theorem WN (F:Fun K "reads_well" "reads_well" jD f fd) (c:Cs K mg ad) (d_Passage:MakeA P w K mg base "Passage" ad.Passage 4 ["self","state"] (Q0 K ad.Passage)) (d_written_ahead:Def P w K mg base 1 "written_ahead" ["passages"] (qhn K ad.Passage)):FnOk P w K mg base CX0 6 f fd ["machine"] (qhp K):=by
 refine F.ok JK (fun vs H Q E h=>?_) (fun cdv A outer s H vs Q E hr h=>?_)
 ·obtain ⟨x,m,rfl,_⟩:=h;rfl
 obtain ⟨x,m,rfl,hx,h1,h2,sok,q⟩:=h;have hu:=wo hr;refine ⟨_,(qf (pst 1 JK.nd (qX (sc:=qh jD) (NX:=["machine","passages","ahead"]) (N:=["state"]) (js:=[none]) (Jx (K:=K) rfl (pix K (pv 0) (zA c.STATES))) (fun _ _ _ _ _=>(qx (i:=0) (show (["state"]:List Str).Nodup from ∅) rfl (Or.inl rfl))) (fun _ _ _ _ _=>zn) (fun _ _ _ _ _=>(qfx d_Passage (hr.mono (by first | decide | omega)) (qa (pv 0) qb))) (qB rfl) ⟨∅,rfl,∅,∅,rfl,∅⟩))
   (qf (pst 2 JK.nd (pdf d_written_ahead (qa (pv 1) qb)))
   (qg (qm (qt (JY (K:=K) rfl rfl) (by rfl) c.all_ jW (qa (qX (sc:=qh jD) (NX:=["machine","passages","ahead"]) (N:=["number","passages","ahead"]) (js:=[none,some 1,some 2]) (qc1 (pv 2)) (fun _ _ _ _ _=>(qx (i:=0) (show (["number","passages","ahead"]:List Str).Nodup from ∅) rfl (Or.inl rfl))) (fun _ _ _ _ _=>zn) (fun _ _ _ _ _=>(zb ze (qH qa0 (qc4 (K:=K) rfl (pix K (pv 1) (pv 0)) rfl) (Zf QK (jt (by exact hu) (pv 2) (pv 0) (fun _ _=>rfl)))) qc (qq _))) (qB rfl) ⟨∅,rfl,∅,∅,rfl,∅⟩) qb)))))),?_⟩
 clear hu hr;have pok:=Cod.qao h1 sok;have plen:(m.states.map Cod.qW).length≤2000:=by rw [Aj];exact h2
 refine ⟨_,rfl,ixr (i:=7) hx rfl fun u ru=>qb6 ru sok h2 fun H1 L vs g1 hL psl=>?_⟩;refine ⟨_,rfl,L,vs,_,1000,rfl,SqL.of hL,psl,plen,pok,fun l H2 D g2 hD hd aw al=>?_⟩;have psl2:=psl.same g2;refine ⟨_,rfl,D,_,rfl,hd,fun o=>?_⟩;have psl3:=psl2.updD (.frz o (.dK (kvL l))) hd;have g3:qk H (upd H2 D (.frz o (.dK (kvL l)))):=zy (g1.trans g2) (g1.free hD);have hL3:SqL K (upd H2 D (.frz o (.dK (kvL l)))) L vs:=SqL.of (by rw [qo fun z=>by rw [z] at hL;rw [hD] at hL;cases hL];exact g2 _ _ hL)
 have hF:upd H2 D (.frz o (.dK (kvL l))) D=some (.frz o (.dK (kvL l))):=upd_same;generalize upd H2 D (.frz o (.dK (kvL l)))=H3 at psl3 g3 hL3 hF ⊢;have hlen:l.length≤2000:=As aw.len plen;refine zd l.length (fun i ys H'=>qk H3 H'∧ys=((l.take i).map fun p=>V.bl (decide (Cod.dif (((m.states.map Cod.qW)[p.1]?).getD (0,[])).1 p.2=0)))) ⟨qk.refl _,rfl⟩ (fun i ys H' h=>?_) (As hlen O0) (fun i ys H' hi h=>?_) (fun ys H' h=>?_)
 ·rw [h.2,Aj];exact Bw _ _
 ·obtain ⟨g,rfl⟩:=h;refine ⟨⟨g _ _ hF,by rw [qba];exact hi⟩,fun v H4 yl=>?_⟩
  obtain ⟨rfl,p,hp,rfl⟩:=yl;obtain ⟨k,hk⟩:∃ k,l[i]?=some k:=⟨_,Ah hi⟩;have ep:p=((Sum.inl (k.1:Int):Key),nV k.2):=by
   unfold kvL at hp;rw [Au,hk] at hp;exact (Bh hp).symm
  subst ep;have hget:=Cod.wH aw.nd (A0 hk);obtain ⟨pp,hpp⟩:∃ p,(m.states.map Cod.qW)[k.1]?=some p:=⟨_,Ah (aw.bd _ _ hget).1⟩;obtain ⟨pa,pdx,pwl,pwr,hpv,pg⟩:=psl3.get hpp;have dg:jL H4 D (nV k.1) (some (nV k.2)):=by
   have:jL H4 D (kV (Sum.inl (k.1:Int))) (zL (kvL l) (Sum.inl (k.1:Int))):= .inl ⟨_,_,.inr ⟨o,g _ _ hF⟩,rfl,rfl⟩;rw [qeo,hget] at this;exact this
  refine ⟨_,rfl,_,rfl,.inl ⟨L,vs,(k.1:Nat),.ref pa,rfl,rfl,g.seq hL3,zT hpv,pa,_,pdx,_,_,rfl,g _ _ pg.ob,c.cl,c.aN,qi5 _ _ _,?_⟩⟩;refine ⟨_,rfl,_,rfl,D,nV k.2,rfl,dg,_,rfl,_,_,rfl,rfl,rfl,g,?_⟩;rw [Bl,hk,A6];refine congrArg (fun z=>_++[V.bl z]) ?_;show decide (V.int (Builtin.bitAnd (pp.1:Int) (Builtin.bitNot (k.2:Int)))=V.int 0)=decide (Cod.dif (((m.states.map Cod.qW)[k.1]?).getD (0,[])).1 k.2=0);rw [Cod.qby,hpp,Eb];exact Ed.mpr ⟨fun h=>by have:=V.int.inj h;omega,fun h=>by rw [h];rfl⟩
 ·obtain ⟨g,rfl⟩:=h;rw [Bp];refine ⟨⟨g _ _ hF,by rw [qba];exact An _⟩,fun E2 hE=>?_⟩
  refine ⟨E2,l.map fun p=>decide (Cod.dif (((m.states.map Cod.qW)[p.1]?).getD (0,[])).1 p.2=0),rfl,SqL.of (by rw [upd_same,Bm];rfl),q _ _ ?_ (g3.trans (g.trans (qe hE _)))⟩
  rw [Cod.RwM,Cod.qfp pok aw al,Dj,A8];refine ⟨fun z p hp r hr=>?_,fun z p hp=>?_⟩
  ·have:=Co (z p hp);rw [hr] at this;exact this
  ·obtain ⟨pp,hpp⟩:∃ r,(m.states.map Cod.qW)[p.1]?=some r:=⟨_,Ah (aw.bd _ _ (Cod.wH aw.nd hp)).1⟩;refine Am ?_;rw [hpp,Eb];exact z p hp pp hpp
theorem YN (F:Fun K "is_sound" "is_sound" J4 f fd) (c:Cs K mg ad) (d_is_code:Def P w K mg base 11 "is_code" ["thing"] (spD K Cod.jU)) (d_reads_well:Def P w K mg base 6 "reads_well" ["machine"] (qhp K)):FnOk P w K mg base CX0 12 f fd ["thing"] (spD K Cod.jQ):=by
 refine F.ok Yv (fun vs H Q E h=>?_) (fun cdv A outer s H vs Q E hr h=>?_)
 ·obtain ⟨x,d,rfl,_⟩:=h;rfl
 obtain ⟨x,d,rfl,hk,ft,q⟩:=h;refine ⟨_,(qg (qm (zC (pdf d_is_code (qa (pv 0) qb)) (zp (qt (JY (K:=K) rfl rfl) (by rfl) c.all_ jW (qa (qX (sc:=qh J4) (NX:=["thing"]) (N:=["machine"]) (js:=[none]) (Jx (K:=K) rfl (pv 0)) (fun _ _ _ _ _=>(qx (i:=0) (show (["machine"]:List Str).Nodup from ∅) rfl (Or.inl rfl))) (fun _ _ _ _ _=>zn) (fun _ _ _ _ _=>(pdf d_reads_well (qa (pv 0) qb))) (qB rfl) ⟨∅,rfl,∅,∅,rfl,∅⟩) qb)))))),?_⟩
 refine ⟨_,rfl,x,d,rfl,hk,ft,fun H1 g1=>⟨_,rfl,qN (fun h=>?_) fun h=>?_⟩⟩
 ·obtain ⟨ds,rfl,ck⟩:=Cod.qb9 h;have l2:=ck.l2;refine ⟨_,rfl,wN (hk.same g1) Cod.rwB ⋯ (fun x d H' R g hd rd hR=>?_) fun H' g=>?_⟩
  ·obtain ⟨i,hi,e⟩:=Cf.mp hd;have hm:(ds.map Cod.jz)[i]?=some (Cod.jz d):=by rw [Au,Ah hi,e];rfl
   have okm:=ck.okm i _ hm;have inn:=ck.inn i _ hm;have back:d=(Cod.jz d).data:=by
    have z:=congrArg (fun l=>l[i]?) ck.back;rw [Au,hm,Ah hi,e] at z;exact Bh z
   rw [Cod.za,Al] at inn;refine ⟨_,rfl,_,Cod.jz d,rfl,by rw [← back];exact rd,okm.st1,okm.st2,fun st hst=>Cod.Q2 row_heads end_heads okm.s1 (A8.mp inn.2 st hst),fun b H5 hb g5=>?_⟩
   have eb:b=Cod.rwB d:=by rw [Bn,Cod.rwB_iff];exact hb
   rw [eb];exact hR H5 g5
  ·have q':=q H' (g1.trans g);simp only [Cod.jQ,h,Be] at q';exact q'
 ·have q':=q H1 g1;simp only [Cod.jQ,h,Ba] at q';exact q'
structure Tp (K:Frag) (a:Ac) (m:Nat) (H:Hp) (t:Ac):Prop where
 le:m≤100
 ex:∃ (kvs:List (Key×V)) (ns:List Int) (n:Nat) (s:Int),H t=some (.dK kvs)∧zL kvs (Sum.inr "script")=some (.ref a)∧SqL K H a (ns.map V.int)∧zL kvs (Sum.inr "at")=some (.int (n:Nat))∧zL kvs (Sum.inr "seed")=some (.int s)∧kvs.length≤m
theorem Tp.stay {a:Ac} {m:Nat} {H H':Hp} {t:Ac} (h:Tp K a m H t) (g:qk H H'):Tp K a m H' t:=by
 obtain ⟨kvs,ns,n,s,h1,h2,h3,r⟩:=h.ex;exact ⟨h.le,kvs,ns,n,s,g _ _ h1,h2,g.seq h3,r⟩
theorem Tp.dk {a:Ac} {m:Nat} {H:Hp} {t:Ac} (h:Tp K a m H t):∃ kvs,H t=some (.dK kvs):=by
 obtain ⟨kvs,_,_,_,h1,_⟩:=h.ex;exact ⟨kvs,h1⟩
theorem kne {a b:Str} (h:¬ a=b):¬ (Sum.inr a:Key)=Sum.inr b:=fun e=>h (Ep e)
theorem YZ {kvs:List (Key×V)} {k:Key} {v u:V} (h:zL kvs k=some u):(qS kvs k v).length=kvs.length:=by
 unfold qS;rw [if_pos (by rw [vz,h];rfl),Aj]
theorem six {n m:Nat} (h:n≤m) (l:m≤100):n<Af:=Cb (As h l) O0
def zH (K:Frag):Sp:=fun vs H Q _=>∃ t k a m,vs=[.ref t,.int k]∧Tp K a m H t∧0<k∧∀ (i:Int) H',0≤i→i<k→Stay t H H'→Tp K a m H' t→Q (.int i) H'
theorem n_as:¬ (Sum.inr ("seed":Str):Key)=Sum.inr ("at":Str):=kne ∅
theorem qil:¬ (Sum.inr ("script":Str):Key)=Sum.inr ("at":Str):=kne ∅
theorem qik:¬ (Sum.inr ("script":Str):Key)=Sum.inr ("seed":Str):=kne ∅
theorem qim:¬ (Sum.inr ("at":Str):Key)=Sum.inr ("seed":Str):=kne ∅
theorem YI (F:Fun K "_law_draw" "_law_draw" Vc f fd) (c:Cs K mg ad):FnOk P w K mg base CX0 1 f fd ["_law_tape_here","_law_many"] (zH K):=by
 refine F.ok vB (fun vs H Q E h=>?_) (fun cdv A outer s H vs Q E hr h=>?_)
 ·obtain ⟨t,k,a,m,rfl,_⟩:=h;rfl
 obtain ⟨t,k,a,m,rfl,tp,hk,q⟩:=h;have hu:=wo hr;refine ⟨_,(qf (pst 2 vB.nd qc)
   (qf (qF (qu wg (jt hu (pv 0) qj (fun _ _=>rfl)) (qt (jN (K:=K) rfl) (by rfl) c.len_ zR (qa (jt hu (pv 0) qj (fun _ _=>rfl)) qb)) (qq _)) (qg (pst 2 vB.nd (pix K (jt hu (pv 0) qj (fun _ _=>rfl)) (jt hu (pv 0) qj (fun _ _=>rfl))))) qv)
   (qf (vT hu (pv 0) qj (qH zk (jt hu (pv 0) qj (fun _ _=>rfl)) qc) rfl)
   (qf (vT hu (pv 0) qj (qH We (qH zk (qH yR (qH zk (jt hu (pv 0) qj (fun _ _=>rfl)) (pv 2)) qc) qc) qc) rfl)
   (qg (qm (qH We (qH qc9 (jt hu (pv 0) qj (fun _ _=>rfl)) qc) (pv 1)))))))),?_⟩
 clear hu hr;obtain ⟨kvs,ns,n,sd,h1,h2,h3,h4,h5,h6⟩:=tp.ex;have gAt:jL H t (.str "at") (some (.int (n:Nat))):=by rw [← h4];exact jL.k (k:=Sum.inr "at") h1
 have gSc:jL H t (.str "script") (some (.ref a)):=by rw [← h2];exact jL.k (k:=Sum.inr "script") h1
 have fin:∀ cell:Int,(Jn (Q7 (qG 0) (tC (.str "at")) (tOp JP (X3 (qG 0) (tC (.str "at"))) (tC (.int 1)))) (Jn (Q7 (qG 0) (tC (.str "seed")) (tOp (rI (fun _ j=>0<j) fun i j=> .int (i % j)) (tOp JP (tOp (rI qem fun i j=> .int (i*j)) (tOp JP (X3 (qG 0) (tC (.str "seed"))) (qG 2)) (tC (.int 48271))) (tC (.int 11))) (tC (.int 2147483647)))) (Xk (tOp (rI (fun _ j=>0<j) fun i j=> .int (i % j)) (tOp (rI qjc fun i j=> .int (i / j)) (X3 (qG 0) (tC (.str "seed"))) (tC (.int 11))) (qG 1))))) {nx:=fun x H'=>Q V.non H',rt:=Q} [some (.ref t),some (.int k),some (.int cell)] H:=fun cell=>by
  refine ⟨_,rfl,t,_,rfl,gAt,.inl ⟨_,_,rfl,rfl,_,rfl,t,_,rfl,wC.k (k:=Sum.inr "at") h1 (six h6 tp.le),?_⟩⟩;have v1:∀ j,zL (qS kvs (Sum.inr "at") (.int ((n:Int)+1))) j=if j=(Sum.inr ("at":Str):Key) then some (.int ((n:Int)+1)) else zL kvs j:=fun j=>valV_put _ _ _ _
  have l1:(qS kvs (Sum.inr "at") (.int ((n:Int)+1))).length≤m:=by rw [YZ h4];exact h6
  have s1:=Stay.put (ks:=qS kvs (Sum.inr "at") (.int ((n:Int)+1))) h1;have d1:upd H t (.dK (qS kvs (Sum.inr "at") (.int ((n:Int)+1)))) t=some (.dK (qS kvs (Sum.inr "at") (.int ((n:Int)+1)))):=upd_same;generalize qS kvs (Sum.inr "at") (.int ((n:Int)+1))=kv1 at v1 l1 s1 d1 ⊢;generalize upd H t (.dK kv1)=H1 at s1 d1 ⊢;have e5:zL kv1 (Sum.inr "seed")=some (.int sd):=by rw [v1,if_neg n_as];exact h5
  have gSe:jL H1 t (.str "seed") (some (.int sd)):=by rw [← e5];exact jL.k (k:=Sum.inr "seed") d1
  refine ⟨_,rfl,t,_,rfl,gSe,_,rfl,.inl ⟨_,_,rfl,rfl,_,_,rfl,rfl,.inr ⟨O0,O0⟩,.inl ⟨_,_,rfl,rfl,_,_,rfl,rfl,(show (0:Int)<2147483647 from O0),_,rfl,t,_,rfl,wC.k (k:=Sum.inr "seed") d1 (six l1 tp.le),?_⟩⟩⟩;have v2:∀ j,zL (qS kv1 (Sum.inr "seed") (.int (((sd+cell)*48271+11) % 2147483647))) j=if j=(Sum.inr ("seed":Str):Key) then some (.int (((sd+cell)*48271+11) % 2147483647)) else zL kv1 j:=fun j=>valV_put _ _ _ _
  have l2:(qS kv1 (Sum.inr "seed") (.int (((sd+cell)*48271+11) % 2147483647))).length≤m:=by rw [YZ e5];exact l1
  have s2:=s1.trans (Stay.put (ks:=qS kv1 (Sum.inr "seed") (.int (((sd+cell)*48271+11) % 2147483647))) d1);have d2:upd H1 t (.dK (qS kv1 (Sum.inr "seed") (.int (((sd+cell)*48271+11) % 2147483647)))) t=some (.dK (qS kv1 (Sum.inr "seed") (.int (((sd+cell)*48271+11) % 2147483647)))):=upd_same;have e6:zL (qS kv1 (Sum.inr "seed") (.int (((sd+cell)*48271+11) % 2147483647))) (Sum.inr "seed")=some (.int (((sd+cell)*48271+11) % 2147483647)):=by rw [v2,if_pos rfl]
  have gSe2:jL (upd H1 t (.dK (qS kv1 (Sum.inr "seed") (.int (((sd+cell)*48271+11) % 2147483647))))) t (.str "seed") (some (.int (((sd+cell)*48271+11) % 2147483647))):=by rw [← e6];exact jL.k (k:=Sum.inr "seed") d2
  refine ⟨_,rfl,t,_,rfl,gSe2,_,_,rfl,rfl,⟨O0,O0⟩,_,rfl,_,_,rfl,rfl,hk,q _ _ (Int.emod_nonneg _ ⋯) (Ek _ hk) s2 ⟨tp.le,_,ns,n+1,(((sd+cell)*48271+11) % 2147483647),d2,?_,s2.sqL h3,?_,e6,l2⟩⟩
  ·rw [v2,if_neg qik,v1,if_neg qil];exact h2
  ·rw [v2,if_neg qim,v1,if_pos rfl];rfl
 refine ⟨_,rfl,t,_,rfl,gAt,_,rfl,t,_,rfl,gSc,_,_,rfl,.inl ⟨_,h3,rfl⟩,_,_,rfl,rfl,_,rfl,?_⟩;refine qN (fun h=>?_) fun h=>?_
 ·have hl:(n:Int)<(((ns.map V.int).length:Nat):Int):=Co h;rw [Aj] at hl;have hv:atI (ns.map V.int) ((n:Nat):Int)=some (.int ns[n]):=zT (by rw [Au,Ah ⋯];rfl)
  exact ⟨_,rfl,t,_,rfl,gSc,_,rfl,t,_,rfl,gAt,.inl ⟨_,_,_,_,rfl,rfl,h3,hv,fin _⟩⟩
 ·exact fin 0
def Apt (K:Frag) (a p:Ac):Prop:=a≠p∨∃ ns:List Int,∀ H:Hp,SqL K H a (ns.map V.int)
theorem Tp.apt {a t p:Ac} {m:Nat} {H:Hp} (h:Tp K a m H t) (hp:H p=none):Apt K a p:=by
 obtain ⟨kvs,ns,n,s,h1,h2,h3,r⟩:=h.ex;rcases h3 with (h | ⟨o,h⟩) | h
 ·exact .inl (qr h hp)
 ·exact .inl (qr h hp)
 ·exact .inr ⟨ns,fun H=> .inr h⟩
theorem Tp.putL {a t p:Ac} {m:Nat} {H:Hp} {xs:List V} (h:Tp K a m H t) (ap:Apt K a p) (hp:H p=some (.lst xs)) (ys:List V):Tp K a m (upd H p (.lst ys)) t:=by
 obtain ⟨kvs,ns,n,s,h1,h2,h3,r⟩:=h.ex;have nt:t≠p:=fun z=>by rw [z,hp] at h1;cases h1
 rcases ap with ne | ⟨ns',h⟩
 ·refine ⟨h.le,kvs,ns,n,s,by rw [qo nt];exact h1,h2,?_,r⟩
  rcases h3 with (h | ⟨o,h⟩) | h
  ·exact .inl (.inl (by rw [qo ne];exact h))
  ·exact .inl (.inr ⟨o,by rw [qo ne];exact h⟩)
  ·exact .inr h
 ·rename_i hh;exact ⟨hh.le,kvs,ns',n,s,by rw [qo nt];exact h1,h2,h _,r⟩
end
end Mine
namespace Mine
open PySem L2 Nam
section
variable {P:Program} {w:World} {K:Frag} {mg:Str→Option Ab} {base:Heap} {f:Ac} {fd:FuncData} {ad:Ad}
theorem qa9 {i:Int} (h0:0≤i) (h1:i<26):∃ c,atI (Str.ofString "abcdefghijklmnopqrstuvwxyz").cps.toList i=some c:=by
 have e:(Str.ofString "abcdefghijklmnopqrstuvwxyz").cps.toList.length=26:=∅;have ek:i=((i.toNat:Nat):Int):=⋯;have hk:i.toNat<(Str.ofString "abcdefghijklmnopqrstuvwxyz").cps.toList.length:=⋯;have q:atI (Str.ofString "abcdefghijklmnopqrstuvwxyz").cps.toList ((i.toNat:Nat):Int)=some _:=zT (Ah hk);rw [← ek] at q;exact ⟨_,q⟩
theorem vZ {xs:List V} {i:Int} {p:V→Prop} (h:∀ x∈xs,p x) (h0:0≤i) (h1:i<(xs.length:Int)):∃ v,atI xs i=some v∧p v:=by
 have hk:i.toNat<xs.length:=⋯;have ek:i=((i.toNat:Nat):Int):=⋯;have q:atI xs ((i.toNat:Nat):Int)=some xs[i.toNat]:=zT (Ah hk);rw [← ek] at q;exact ⟨_,q,h _ (List.getElem_mem hk)⟩
theorem jT (kvs:List (Key×V)) (k:Key) (v:V):(qS kvs k v).length≤kvs.length+1:=by
 unfold qS;split
 ·rw [Aj];omega
 ·rw [Ax];exact An _
theorem QR {H:Hp} {t a:Ac} {ns:List Int} (hd:H t=some (.dK (jb [] [(Sum.inr "script",.ref a),(Sum.inr "at",.int 0),(Sum.inr "seed",.int 0),(Sum.inr "parts",.int 0),(Sum.inr "funs",.int 0)]))) (ha:SqL K H a (ns.map V.int)):Tp K a 6 H t:=by
 have n1:¬ (Sum.inr ("script":Str):Key)=Sum.inr ("parts":Str):=kne ∅;have n2:¬ (Sum.inr ("script":Str):Key)=Sum.inr ("funs":Str):=kne ∅;have n3:¬ (Sum.inr ("at":Str):Key)=Sum.inr ("parts":Str):=kne ∅;have n4:¬ (Sum.inr ("at":Str):Key)=Sum.inr ("funs":Str):=kne ∅;have n5:¬ (Sum.inr ("seed":Str):Key)=Sum.inr ("parts":Str):=kne ∅;have n6:¬ (Sum.inr ("seed":Str):Key)=Sum.inr ("funs":Str):=kne ∅;have e:jb [] ([(Sum.inr "script",.ref a),(Sum.inr "at",.int 0),(Sum.inr "seed",.int 0),(Sum.inr "parts",.int 0),(Sum.inr "funs",.int 0)]:List (Key×V))=qS (qS (qS (qS (qS ([]:List (Key×V)) (Sum.inr ("script":Str):Key) (.ref a)) (Sum.inr ("at":Str):Key) (.int 0)) (Sum.inr ("seed":Str):Key) (.int 0)) (Sum.inr ("parts":Str):Key) (.int 0)) (Sum.inr ("funs":Str):Key) (.int 0):=rfl;rw [e] at hd;refine ⟨O0,_,ns,0,0,hd,?_,ha,?_,?_,?_⟩
 ·rw [valV_put,if_neg n2,valV_put,if_neg n1,valV_put,if_neg qik,valV_put,if_neg qil,valV_put,if_pos rfl]
 ·rw [valV_put,if_neg n4,valV_put,if_neg n3,valV_put,if_neg qim,valV_put,if_pos rfl];rfl
 ·rw [valV_put,if_neg n6,valV_put,if_neg n5,valV_put,if_pos rfl]
 ·have l1:=jT [] (Sum.inr ("script":Str)) (.ref a);have l2:=jT (qS [] (Sum.inr ("script":Str)) (.ref a)) (Sum.inr ("at":Str)) (.int 0);have l3:=jT (qS (qS [] (Sum.inr ("script":Str)) (.ref a)) (Sum.inr ("at":Str)) (.int 0)) (Sum.inr ("seed":Str)) (.int 0);have l4:=jT (qS (qS (qS [] (Sum.inr ("script":Str)) (.ref a)) (Sum.inr ("at":Str)) (.int 0)) (Sum.inr ("seed":Str)) (.int 0)) (Sum.inr ("parts":Str)) (.int 0);have l5:=jT (qS (qS (qS (qS [] (Sum.inr ("script":Str)) (.ref a)) (Sum.inr ("at":Str)) (.int 0)) (Sum.inr ("seed":Str)) (.int 0)) (Sum.inr ("parts":Str)) (.int 0)) (Sum.inr ("funs":Str)) (.int 0);have l0:([]:List (Key×V)).length=0:=rfl;omega
seal L2.PE L2.PS L2.PSs L2.PA L2.PT
def QZ (K:Frag):Sp:=fun vs H Q _=>∃ (a:Ac) (ns:List Int),vs=[.ref a]∧SqL K H a (ns.map V.int)∧∀ t H',qk H H'→H t=none→Tp K a 7 H' t→Q (.ref t) H'
theorem YF (F:Fun K "_law_tape" "_law_tape" J1 f fd) (c:Cs K mg ad) (d_law_draw:Def P w K mg base 1 "_law_draw" ["_law_tape_here","_law_many"] (zH K)):FnOk P w K mg base CX0 2 f fd ["_law_script"] (QZ K):=by
 refine F.ok zD (fun vs H Q E h=>?_) (fun cdv A outer s H vs Q E hr h=>?_)
 ·obtain ⟨a,ns,rfl,_⟩:=h;rfl
 obtain ⟨a,ns,rfl,ha,q⟩:=h;have hu:=wo hr;refine ⟨_,(qf (pst 1 zD.nd (vW (zl qj (pv 0) (zl qj qc (zl qj qc (zl qj qc (zl qj qc vU))))) rfl rfl (by intro z;cases z) O0))
   (qf (pst 2 zD.nd qj)
   (qf (pst 3 zD.nd (pix K (qT (qa qc (qa qc (qa qc (qa qc (qa qc (qa qc qb))))))) (pdf d_law_draw (qa (pv 1) (qa qc qb)))))
   (qf (pst 4 zD.nd (WF (K:=K) rfl PySem.F.plainAttrs_str PySem.F.slot_str_join PySem.F.type_str_join (qgj (K:=K) rfl) qj (qa (qX (sc:=qh J1) (NX:=["_law_script","_law_tape_here","_law_letters","_law_size","_law_alike","_law_at","_law_first","_law_k","_law_sign"]) (N:=["_law_k","_law_letters","_law_tape_here"]) (js:=[none,some 2,some 1]) (zi rfl c.range_ (qa (pv 3) qb)) (fun _ _ _ _ _=>(qx (i:=0) (show (["_law_k","_law_letters","_law_tape_here"]:List Str).Nodup from ∅) rfl (Or.inl rfl))) (fun _ _ _ _ _=>zn) (fun _ _ _ _ _=>(pix K (pv 1) (pdf d_law_draw (qa (pv 2) (qa qc qb))))) (qB rfl) ⟨∅,rfl,∅,∅,rfl,∅⟩) qb)))
   (qf (pst 5 zD.nd (pdf d_law_draw (qa (pv 1) (qa (qH zk (pv 3) qc) qb))))
   (qf (pst 6 zD.nd (pdf d_law_draw (qa (pv 1) (qa qc qb))))
   (qf (vT hu (pv 1) qj (qT qb) rfl)
   (qf (ji Bt rfl (zi rfl c.range_ (qa qc qb)) (pgn 7 zD.nd) (qf (pst 8 zD.nd (pix K (pv 2) (qH We (qH zk (pv 6) (qH yR qc (pv 7))) qc)))
   (qg (je (WF (K:=K) rfl Bu B6 B5 jg (jt hu (pv 1) qj (fun _ _=>rfl)) (qa (qH zk (qH zk (qZ (WK (K:=K) rfl) (pv 4) Jl (qI (pv 5))) (pv 8)) (qZ (WK (K:=K) rfl) (pv 4) (qI (pv 5)) Jl)) qb))))))
   (qg (qm (pv 1))))))))))),?_⟩
 clear hu hr;refine fun t ht=>⟨_,rfl,upd_same,[(Sum.inr "script",.ref a),(Sum.inr "at",.int 0),(Sum.inr "seed",.int 0),(Sum.inr "parts",.int 0),(Sum.inr "funs",.int 0)],rfl,(show (5:Nat)≤15 from O0),?_⟩;have g1:qk H (upd (upd H t (.dK [])) t (.dK (jb [] [(Sum.inr "script",.ref a),(Sum.inr "at",.int 0),(Sum.inr "seed",.int 0),(Sum.inr "parts",.int 0),(Sum.inr "funs",.int 0)]))):=zy (zy (qk.refl _) ht) ht;have tp1:=QR upd_same (g1.seq ha);generalize upd (upd H t (.dK [])) t (.dK (jb [] [(Sum.inr "script",.ref a),(Sum.inr "at",.int 0),(Sum.inr "seed",.int 0),(Sum.inr "parts",.int 0),(Sum.inr "funs",.int 0)]))=H1 at g1 tp1 ⊢;refine ⟨(O0:6≤Af),fun p1 hp1=>⟨_,rfl,t,6,a,6,rfl,tp1.stay (qe hp1 _),O0,fun i H2 i0 i1 st2 tp2=>?_⟩⟩;obtain ⟨v,hv,z,rfl,z0,z1⟩:=vZ (xs:=[V.int 0,V.int 0,V.int 1,V.int 2,V.int 4,V.int 7]) (i:=i) (p:=fun v=>∃ z:Int,v= .int z∧0≤z∧z≤7) (by
  simp only [Av,A7,or_false];rintro x (rfl | rfl | rfl | rfl | rfl | rfl) <;> exact ⟨_,rfl,O0,O0⟩) i0 i1
 refine .inl ⟨p1,_,i,_,rfl,rfl,st2.sqL (SqL.of upd_same),hv,?_⟩;have b2:∀ v o,v≠t→H1 v=some o→H2 v=some o:=fun v o hv e=>st2.rest v o hv ((qe hp1 _) _ _ e);clear st2 hv i0 i1 hp1;refine ⟨rfl,_,rfl,z,rfl,⋯,⋯,?_⟩;refine zd z.toNat (fun i ys H'=>(∀ v o,v≠t→H1 v=some o→H' v=some o)∧Tp K a 6 H' t∧∃ cs:List Nat,cs.length=i∧ys=cs.map fun c=>V.str (one c)) ⟨b2,tp2,[],rfl,rfl⟩ (fun i ys H' h=>?_) (As (show z.toNat≤100 from ⋯) O0) (fun i ys H' hi h=>?_) (fun ys H' h=>?_)
 ·obtain ⟨_,_,cs,rfl,rfl⟩:=h;rw [Aj];exact An _
 ·obtain ⟨b3,tp3,cs,rfl,rfl⟩:=h;refine ⟨hi,fun v H3 yl=>?_⟩;obtain ⟨rfl,rfl⟩:=yl;refine ⟨_,rfl,_,rfl,t,26,a,6,rfl,tp3,O0,fun k H4 k0 k1 st4 tp4=>?_⟩;obtain ⟨cc,hc⟩:=qa9 k0 k1;refine .inr (.inr ⟨_,_,cc,rfl,rfl,∅,hc,⟨fun v o hv e=>st4.rest v o hv (b3 v o hv e),tp4,cs++[cc],by rw [Ax];rfl,?_⟩⟩)
  rw [A6];rfl
 ·obtain ⟨b3,tp3,cs,hcl,rfl⟩:=h;refine ⟨An _,fun D hD=>?_⟩;have g3:=qe hD (.lst (cs.map fun c=>V.str (one c)));refine ⟨_,D,cs.map one,rfl,rfl,SqL.of (by rw [upd_same,Bm];rfl),?_,?_⟩
  ·rw [qa1,Aj];have e:(Str.ofString "").length=0:=∅;rw [e];omega
  rw [qbe];have wl:=qcm cs;have tp4:=tp3.stay g3;have b4:∀ v o,v≠t→H1 v=some o→upd H' D (.lst (cs.map fun c=>V.str (one c))) v=some o:=fun v o hv e=>g3 _ _ (b3 v o hv e);generalize upd H' D (.lst (cs.map fun c=>V.str (one c)))=H4 at tp4 b4 ⊢;generalize wrd cs=al at wl ⊢;refine ⟨_,rfl,_,rfl,.inl ⟨_,_,rfl,rfl,t,_,a,6,rfl,tp4,⋯,fun i5 H5 j0 j1 st5 tp5=>?_⟩⟩;refine ⟨_,rfl,t,26,a,6,rfl,tp5,O0,fun i6 H6 k0 k1 st6 tp6=>?_⟩;have b6:∀ v o,v≠t→H1 v=some o→H6 v=some o:=fun v o hv e=>st6.rest v o hv (st5.rest v o hv (b4 v o hv e));refine ⟨(O0:0≤Af),fun pl hpl=>?_⟩;obtain ⟨kvs,ns6,n6,s6,h1,h2,h3,h4,h5,h6⟩:=tp6.ex;have g7:=qe hpl (.lst []);refine ⟨_,rfl,t,_,rfl,wC.k (k:=Sum.inr "pool") (g7 _ _ h1) (six h6 tp6.le),?_⟩;have n1:¬ (Sum.inr ("script":Str):Key)=Sum.inr ("pool":Str):=kne ∅;have n2:¬ (Sum.inr ("at":Str):Key)=Sum.inr ("pool":Str):=kne ∅;have n3:¬ (Sum.inr ("seed":Str):Key)=Sum.inr ("pool":Str):=kne ∅;have nt:t≠pl:=qr h1 hpl;have e7:zL (qS kvs (Sum.inr "pool") (.ref pl)) (Sum.inr "pool")=some (.ref pl):=by rw [valV_put,if_pos rfl]
  have hpl0:H6 pl=none:=hpl;have st7:Stay t H6 (upd (upd H6 pl (.lst [])) t (.dK (qS kvs (Sum.inr "pool") (.ref pl)))):=(Stay.of h1 g7).trans (Stay.put (g7 _ _ h1));have f1:zL (qS kvs (Sum.inr "pool") (.ref pl)) (Sum.inr "script")=some (.ref a):=by rw [valV_put,if_neg n1];exact h2
  have f2:zL (qS kvs (Sum.inr "pool") (.ref pl)) (Sum.inr "at")=some (.int (n6:Nat)):=by rw [valV_put,if_neg n2];exact h4
  have f3:zL (qS kvs (Sum.inr "pool") (.ref pl)) (Sum.inr "seed")=some (.int s6):=by rw [valV_put,if_neg n3];exact h5
  have f4:(qS kvs (Sum.inr "pool") (.ref pl)).length≤7:=As (jT _ _ _) ⋯;have d7:upd (upd H6 pl (.lst [])) t (.dK (qS kvs (Sum.inr "pool") (.ref pl))) t=some (.dK (qS kvs (Sum.inr "pool") (.ref pl))):=upd_same;have l7:upd (upd H6 pl (.lst [])) t (.dK (qS kvs (Sum.inr "pool") (.ref pl))) pl=some (.lst []):=by rw [qo nt.symm];exact upd_same
  generalize upd (upd H6 pl (.lst [])) t (.dK (qS kvs (Sum.inr "pool") (.ref pl)))=H7 at st7 d7 l7 ⊢;generalize qS kvs (Sum.inr "pool") (.ref pl)=kv7 at e7 f1 f2 f3 f4 d7;refine ⟨8,rfl,O0,O0,jn 8 (fun i σ H'=>(∀ v o,v≠pl→H7 v=some o→H' v=some o)∧(∃ vs,H' pl=some (.lst vs)∧vs.length=i)∧∃ o7 o8,σ=[some (.ref a),some (.ref t),some (.str (Str.ofString "abcdefghijklmnopqrstuvwxyz")),some (.int z),some (.str al),some (.int i5),some (.int i6),o7,o8]) ⟨fun _ _ _ e=>e,⟨[],l7,rfl⟩,_,_,rfl⟩ (fun i σ H' hi h=>?_) (fun σ H' h=>?_)⟩
  ·obtain ⟨b8,⟨vs,hvs,rfl⟩,o7,o8,rfl⟩:=h;refine ⟨hi,fun v H8 yl N hN=>?_⟩;obtain ⟨rfl,rfl⟩:=yl;have e0:=Int.emod_nonneg (i6+5*(0+(vs.length:Int))) (show (26:Int)≠0 from O0);have e1:=Ek (i6+5*(0+(vs.length:Int))) (show (0:Int)<26 from O0);obtain ⟨cc,hc⟩:=qa9 e0 e1;refine ⟨_,rfl,_,rfl,_,rfl,_,_,rfl,rfl,.inl ⟨O0,O0⟩,.inl ⟨_,_,rfl,rfl,_,_,rfl,rfl,(show (0:Int)<26 from O0),.inr (.inr ⟨_,_,cc,rfl,rfl,∅,hc,?_⟩)⟩⟩;have dg:jL H8 t (.str "pool") (some (.ref pl)):=by rw [← e7];exact jL.k (k:=Sum.inr "pool") (b8 _ _ nt d7)
   have hal:al.length≤Af:=As (show al.length≤7 from ⋯) O0;have hs1:=PyProof.Txt.length_slice_le al none (some i5);have hs2:=PyProof.Txt.length_slice_le al (some i5) none;have hone:(⟨#[cc]⟩:Str).length=1:=rfl;refine ⟨_,rfl,t,_,rfl,dg,.inl ⟨rfl,_,SqL.of hvs⟩,?_⟩;refine ⟨_,rfl,_,rfl,_,rfl,.inr (.inl ⟨al,rfl,hal,_,rfl,.inr (.inl ⟨_,_,rfl,rfl,As (show _≤100 from ⋯) O0,_,rfl,_,rfl,_,rfl,.inr (.inl ⟨al,rfl,hal,.inr (.inl ⟨_,_,rfl,rfl,?_,?_⟩)⟩)⟩)⟩)⟩
   ·have hap:∀ a b:Str,(a++b).length=a.length+b.length:=fun a b=>Str.length_append a b;rw [hap];exact As (show _≤100 from ⋯) O0
   ·refine ⟨pl,vs,_,rfl,rfl,hvs,Cb (show vs.length≤100 from ⋯) O0,hN _ _ ⟨fun v o hv e=>by rw [qo hv];exact b8 v o hv e,⟨_,upd_same,by rw [Ax];rfl⟩,_,_,rfl⟩⟩
  ·obtain ⟨b8,⟨vs,hvs,_⟩,o7,o8,rfl⟩:=h;refine ⟨An _,_,rfl,q t H' (fun v o e=>?_) ht ?_⟩
   ·have v1:v≠t:=qr e ht;have e6:=b6 v o v1 (g1 _ _ e);exact b8 v o (qr e6 hpl0) (st7.rest v o v1 e6)
   ·refine ⟨O0,kv7,ns6,n6,s6,b8 _ _ nt d7,f1,?_,f2,f3,f4⟩;have nd:∀ {b:Ac} {o:HO},H6 b=some o→(∀ k,o≠ .dK k)→H' b=some o:=fun {b o} e z=>b8 b o (qr e hpl0) (st7.rest b o (fun w=>by rw [w,h1] at e;exact z _ (Bh e).symm) e)
    rcases h3 with (h | ⟨o,h⟩) | h
    ·exact .inl (.inl (nd h fun k z=>by cases z))
    ·exact .inl (.inr ⟨o,nd h fun k z=>by cases z⟩)
    ·exact .inr h
end
end Mine
namespace Mine
open PySem L2
section
variable {P:Program} {w:World} {K:Frag} {mg:Str→Option Ab} {base:Heap} {f:Ac} {fd:FuncData} {ad:Ad}
def Lsd (K:Frag) (H:Hp) (p:Ac) (ds:List Aa):Prop:=∃ vs,H p=some (.lst vs)∧Reps K H vs ds
theorem Lsd.same {H H':Hp} {p:Ac} {ds:List Aa} (g:qk H H') (h:Lsd K H p ds):Lsd K H' p ds:=by
 obtain ⟨vs,a,r⟩:=h;exact ⟨vs,g _ _ a,r.same g⟩
theorem Lsd.stay {H H':Hp} {t p:Ac} {ds:List Aa} (g:Stay t H H') (h:Lsd K H p ds):Lsd K H' p ds:=by
 obtain ⟨vs,a,r⟩:=h;exact ⟨vs,g.rest _ _ (g.ne a fun k z=>by cases z) a,r.stay g⟩
def AtX (K:Frag) (H:Hp) (x:V) (n:Nat) (v:V):Prop:=∃ a xs,x= .ref a∧(SqL K H a xs∨SqT K H a xs)∧xs[n]?=some v
theorem AtX.ix {H:Hp} {x v:V} {n:Nat} {Q:VK} (h:AtX K H x n v) (q:Q v H):rIx K x (.int (n:Nat)) H Q:=by
 obtain ⟨a,xs,rfl,h | h,e⟩:=h
 ·exact .inl ⟨a,xs,(n:Nat),v,rfl,rfl,h,zT e,q⟩
 ·exact .inr (.inl ⟨a,xs,(n:Nat),v,rfl,rfl,h,zT e,q⟩)
theorem AtX.same {H H':Hp} {x v:V} {n:Nat} (g:qk H H') (h:AtX K H x n v):AtX K H' x n v:=by
 obtain ⟨a,xs,rfl,h | h,e⟩:=h
 ·exact ⟨a,xs,rfl,.inl (g.seq h),e⟩
 ·exact ⟨a,xs,rfl,.inr (g.sqT h),e⟩
theorem Ye {J:It} {js:List (Option Nat)} {tt:TT} {σ:St} {H:Hp} {Q:VK} {w:Str} (n:Nat) (g:Nat→Nat) (b:Nat→Bool) (hn:n≤1000)
  (go:∀ i H',i<n→qk H H'→J.go i H'∧∀ x H2,J.yld i H' x H2→H2=H'∧x=nV (g i)) (stop:∀ H',qk H H'→J.stop n H')
  (ht:∀ i H' R,i<n→qk H H'→R (b i) H'→tt ((zm (none::js) σ).set 0 (some (nV (g i)))) H' R)
  (q:∀ p H',H p=none→qk H H'→Lsd K H' p (((List.range n).filter b).map fun i=>Cod.plc w (g i))→Q (.ref p) H'):
  zK J (none::js) (qC 0) tt (VL (qw (tC (.str w)) (qw (qG 0) zu))) σ H Q:=by
 refine zd n (fun i ys H'=>qk H H'∧Reps K H' ys (((List.range i).filter b).map fun i=>Cod.plc w (g i))) ⟨qk.refl _,.nil⟩ (fun i ys H' h=>?_) (As hn O0) (fun i ys H' hi h=>?_) (fun ys H' h=>?_)
 ·rw [h.2.length,Aj];exact As (Db _ _) (by rw [Dh];exact An _)
 ·obtain ⟨gg,r⟩:=h;obtain ⟨a,y⟩:=go i H' hi gg;refine ⟨a,fun x H2 yl=>?_⟩;obtain ⟨rfl,rfl⟩:=y x H2 yl;refine ht i _ _ hi gg (qN (fun h=>?_) fun h=>?_)
  ·refine ⟨_,rfl,(O0:2≤Af),fun p hp=>⟨gg.trans (qe hp _),?_⟩⟩;have e:((List.range (i+1)).filter b).map (fun i=>Cod.plc w (g i))=((List.range i).filter b).map (fun i=>Cod.plc w (g i))++[Cod.plc w (g i)]:=by
    rw [List.range_succ,List.filter_append,A6]
    congr 1
    rw [D7,h];rfl
   rw [e];exact (r.same (qe hp _)).append (.cons (.tup (SqT.of upd_same) (.cons (.str w) (.cons (.int _) .nil))) .nil)
  ·refine ⟨gg,?_⟩;have e:(List.range (i+1)).filter b=(List.range i).filter b:=by
    rw [List.range_succ,List.filter_append,D7,h];simp
   rw [e];exact r
 ·obtain ⟨gg,r⟩:=h;exact ⟨stop _ gg,fun D hD=>q D _ (gg.free hD) (gg.trans (qe hD _)) ⟨ys,upd_same,r.same (qe hD _)⟩⟩
def qcr (K:Frag):Sp:=fun vs H Q _=>∃ x n v k o p sl,∃ (names:Nat) (boxed:List Nat) (taken rest:List Aa),vs=[x,.int (n:Nat)]∧AtX K H x n v∧Rep K H v (.tuple (k::o::p:: .int (names:Nat)::sl:: .tuple ((boxed.map fun b:Nat=>(b:Int)).map .int):: .tuple taken::rest))∧names≤1000∧boxed.length≤1000∧taken.length≤1000∧
 ∀ p H',H p=none→qk H H'→Lsd K H' p (Cod.ja names boxed taken.length)→Q (.ref p) H'
theorem wq (n:Nat):(List.range n).filter (fun _=>true)=List.range n:=List.filter_eq_self.mpr fun _ _=>rfl
theorem WP (F:Fun K "_law_places" "_law_places" jc f fd) (c:Cs K mg ad):FnOk P w K mg base CX0 1 f fd ["_law_heads_here","_law_number"] (qcr K):=by
 refine F.ok jZ (fun vs H Q E h=>?_) (fun cdv A outer s H vs Q E hr h=>?_)
 ·obtain ⟨x,n,v,k,o,p,sl,names,boxed,taken,rest,rfl,_⟩:=h;rfl
 obtain ⟨x,n,v,k,o,p,sl,names,boxed,taken,rest,rfl,hx,hv,b1,b2,b3,q⟩:=h;refine ⟨_,(qf (pst 2 jZ.nd (pix K (pix K (pv 0) (pv 1)) qc))
   (qf (pst 3 jZ.nd (pix K (pix K (pv 0) (pv 1)) qc))
   (qf (pst 4 jZ.nd (qH zk (qX (sc:=qh jc) (NX:=["_law_heads_here","_law_number","_law_names","_law_boxed","_law_found"]) (N:=["_law_k","_law_boxed"]) (js:=[none,some 3]) (zi rfl c.range_ (qa (pv 2) qb)) (fun _ _ _ _ _=>(qx (i:=0) (show (["_law_k","_law_boxed"]:List Str).Nodup from ∅) rfl (Or.inl rfl))) (fun _ _ _ _ _=>(vG (qu (qe2 (K:=K) rfl) (pv 0) (pv 1) rfl))) (fun _ _ _ _ _=>(qi (qa qj (qa (pv 0) qb)))) (qB rfl) ⟨∅,rfl,∅,∅,rfl,∅⟩) (qX (sc:=qh jc) (NX:=["_law_heads_here","_law_number","_law_names","_law_boxed","_law_found"]) (N:=["_law_k"]) (js:=[none]) (Jx (K:=K) rfl (pv 3)) (fun _ _ _ _ _=>(qx (i:=0) (show (["_law_k"]:List Str).Nodup from ∅) rfl (Or.inl rfl))) (fun _ _ _ _ _=>zn) (fun _ _ _ _ _=>(qi (qa qj (qa (pv 0) qb)))) (qB rfl) ⟨∅,rfl,∅,∅,rfl,∅⟩)))
   (qg (qm (qH zk (pv 4) (qX (sc:=qh jc) (NX:=["_law_heads_here","_law_number","_law_names","_law_boxed","_law_found"]) (N:=["_law_j"]) (js:=[none]) (zi rfl c.range_ (qa (qt (jN (K:=K) rfl) (by rfl) c.len_ zR (qa (pix K (pix K (pv 0) (pv 1)) qc) qb)) qb)) (fun _ _ _ _ _=>(qx (i:=0) (show (["_law_j"]:List Str).Nodup from ∅) rfl (Or.inl rfl))) (fun _ _ _ _ _=>zn) (fun _ _ _ _ _=>(qi (qa qj (qa (pv 0) qb)))) (qB rfl) ⟨∅,rfl,∅,∅,rfl,∅⟩))))))),?_⟩
 refine ⟨_,rfl,_,rfl,hx.ix (ixr (i:=3) hv rfl fun u ru=>?_)⟩;cases ru;refine ⟨_,rfl,_,rfl,hx.ix (ixr (i:=5) hv rfl fun u ru=>?_)⟩;have ru0:=ru;cases ru with
 | @tup ba bxs _ hbq hbs=>
  obtain rfl:=V7 hbs;refine ⟨_,rfl,_,rfl,⋯,⋯,?_⟩;rw [Bf];refine Ye (K:=K) (w:="slot") names (fun i=>i) (fun i=>!(boxed.any fun y=>y==i)) b1 (fun i H' hi g=>⟨hi,fun x H2 y=>⟨y.1,by rw [y.2,Dl]⟩⟩) (fun H' g=>An _) (fun i H' R hi g r=>?_) fun p1 H1 hp1 g1 l1=>?_
  ·refine ⟨_,rfl,_,rfl,_,_,rfl,.inr (g.sqT hbq),rfl,wb _,_,rfl,?_⟩;have e:(!inV (.int (i:Nat)) ((boxed.map fun b:Nat=>(b:Int)).map V.int))=!(boxed.any fun y=>y==i):=by rw [in_ints,Cod.wM]
   show R (!inV (.int (i:Nat)) ((boxed.map fun b:Nat=>(b:Int)).map V.int)) H';rw [e];exact r
  ·refine ⟨_,rfl,.inr (.inl ⟨ba,rfl,⟨_,g1.sqT hbq⟩,?_⟩)⟩;refine Ye (K:=K) (w:="box") boxed.length (fun i=>boxed.getD i 0) (fun _=>true) b2 (fun i H' hi g=>?_) (fun H' g=>⟨_,(g1.trans g).sqT hbq,by rw [Aj,Aj];exact An _⟩) (fun i H' R hi g r=>r) fun p2 H2 hp2 g2 l2=>?_
   ·have hb:((boxed.map fun b:Nat=>(b:Int)).map V.int)[i]?=some (nV (boxed.getD i 0)):=by
     rw [Au,Au,Ah hi,Cz,Ah hi];rfl
    exact ⟨⟨_,_,(g1.trans g).sqT hbq,hb⟩,fun x H2 y=>⟨y.1,Bh ((y.2 _ ((g1.trans g).sqT hbq)).symm.trans hb)⟩⟩
   ·have eb:((List.range boxed.length).filter fun _=>true).map (fun i=>Cod.plc "box" (boxed.getD i 0))=boxed.map (Cod.plc "box"):=by
     rw [wq];refine List.ext_getElem (by simp) fun i h1 h2=>?_
     simp only [List.getElem_map,List.getElem_range];rw [Cz,Ah (by simpa using h2)]
     rfl
    rw [eb] at l2;obtain ⟨vs1,hl1,r1⟩:=l1.same g2;obtain ⟨vs2,hl2,r2⟩:=l2;have len1:=r1.length;have len2:=r2.length;have sl1:((List.range names).filter fun i=>!(boxed.any fun y=>y==i)).length≤names:=As (Db _ _) (by rw [Dh];exact An _)
    rw [Aj] at len1 len2;refine XX hl1 hl2 (As (show _≤3000 from ⋯) O0) fun p3 hp3=>?_;have g3:=qe hp3 (.lst (vs1++vs2));have l3:Lsd K (upd H2 p3 (.lst (vs1++vs2))) p3 ((Cod.yB names boxed).map (Cod.plc "slot")++boxed.map (Cod.plc "box")):=⟨_,upd_same,(r1.append r2).same g3⟩;have gg:=(g1.trans g2).trans g3;generalize upd H2 p3 (.lst (vs1++vs2))=H3 at g3 l3 gg ⊢;refine ⟨_,rfl,_,rfl,_,rfl,(hx.same gg).ix (ixr (i:=6) (hv.same gg) rfl fun u ru=>⟨_,_,rfl,y0 ru,?_⟩)⟩;refine ⟨_,rfl,⋯,⋯,?_⟩;rw [Bf];refine Ye (K:=K) (w:="taken") taken.length (fun i=>i) (fun _=>true) b3 (fun i H' hi g=>⟨hi,fun x H2 y=>⟨y.1,by rw [y.2,Dl]⟩⟩) (fun H' g=>An _) (fun i H' R hi g r=>r) fun p4 H4 hp4 g4 l4=>?_
    rw [wq] at l4;obtain ⟨vs3,hl3,r3⟩:=l3.same g4;obtain ⟨vs4,hl4,r4⟩:=l4;have len3:=r3.length;have len4:=r4.length;have sl2:(Cod.yB names boxed).length≤names:=sl1;rw [Ax,Aj,Aj] at len3;rw [Aj,Dh] at len4;refine XX hl3 hl4 (As (show _≤4000 from ⋯) O0) fun p5 hp5=>?_;have g5:=gg.trans (g4.trans (qe hp5 (.lst (vs3++vs4))));exact q p5 _ ((gg.trans g4).free hp5) g5 ⟨_,upd_same,(r3.append r4).same (qe hp5 _)⟩
end
end Mine
namespace L2
open PySem PySem.Spec PyProof.Rows
section
variable {K:Frag} {H H':Hp}
mutual
theorem Rep.tps (gT:∀ {a:Ac} {xs:List V},SqT K H a xs→SqT K H' a xs) (gD:∀ {a:Ac},H a=some (.dT [])→H' a=some (.dT [])):∀ {x:V} {d:Aa},Rep K H x d→Cod.noL d=true→Rep K H' x d
 | _,_,.non,_=> .non
 | _,_,.bl b,_=> .bl b
 | _,_,.int i,_=> .int i
 | _,_,.str x,_=> .str x
 | _,_,.lst _ _,n=>nomatch n
 | _,_,.tup h q,n=> .tup (gT h) (Reps.tps gT gD q n)
 | _,_,.dct h,_=> .dct (gD h)
theorem Reps.tps (gT:∀ {a:Ac} {xs:List V},SqT K H a xs→SqT K H' a xs) (gD:∀ {a:Ac},H a=some (.dT [])→H' a=some (.dT [])):∀ {xs:List V} {ds:List Aa},Reps K H xs ds→Cod.zB ds=true→Reps K H' xs ds
 | _,_,.nil,_=> .nil
 | _,_,.cons h q,n=>by
  rw [Cod.zB,Al] at n;exact .cons (Rep.tps gT gD h n.1) (Reps.tps gT gD q n.2)
end
theorem X9 {p:Ac} {xs ys zs:List V} {a:Ac} (hp:H p=some (.lst xs)) (h:SqT K H a zs):SqT K (upd H p (.lst ys)) a zs:=by
 have ne:∀ {o:HO},H a=some o→(∀ l,o≠ .lst l)→a≠p:=fun e z w=>by
  rw [w,hp] at e;exact z _ (Bh e).symm
 rcases h with (h | ⟨o,h⟩) | h
 ·exact .inl (.inl (by rw [qo (ne h fun l z=>by cases z)];exact h))
 ·exact .inl (.inr ⟨o,by rw [qo (ne h fun l z=>by cases z)];exact h⟩)
 ·exact .inr h
theorem qb1 {p:Ac} {xs ys:List V} {a:Ac} (hp:H p=some (.lst xs)) (h:H a=some (.dT [])):upd H p (.lst ys) a=some (.dT []):=by
 rw [qo fun z=>by rw [z,hp] at h;cases h]
 exact h
theorem Rep.putL {p:Ac} {xs ys:List V} {x:V} {d:Aa} (hp:H p=some (.lst xs)) (r:Rep K H x d) (n:Cod.noL d=true):Rep K (upd H p (.lst ys)) x d:=r.tps (fun h=>X9 hp h) (fun h=>qb1 hp h) n
theorem Reps.putL {p:Ac} {xs ys vs:List V} {ds:List Aa} (hp:H p=some (.lst xs)) (r:Reps K H vs ds) (n:Cod.zB ds=true):Reps K (upd H p (.lst ys)) vs ds:=r.tps (fun h=>X9 hp h) (fun h=>qb1 hp h) n
end
end L2
namespace Mine
open PySem L2
section
variable {P:Program} {w:World} {K:Frag} {mg:Str→Option Ab} {base:Heap} {f:Ac} {fd:FuncData} {ad:Ad}
theorem Xf {a b:Nat} {H:Hp} {Q:VK} (q:Q (nV (a+b)) H):JP (nV a) (nV b) H Q:= .inl ⟨_,_,rfl,rfl,by
 show Q (.int ((a:Int)+(b:Int))) H;rw [← Int.natCast_add];exact q⟩
theorem YB {H:Hp} {x:V} {d:Aa} (r:Rep K H x d):∀ {vs:List V} {ds:List Aa} (j:Nat),Reps K H vs ds→Reps K H (vs.set j x) (ds.set j d)
 | _,_,_,.nil=> .nil
 | _,_,0,.cons _ t=> .cons r t
 | _,_,j+1,.cons h t=> .cons h (YB r j t)
theorem qcw {α β:Type} {f:α→Aa} {g:β→Aa} {hs:List α} {ko:List β} {j:Nat} {h:α} (hl:hs.length=j) (hj:j<ko.length):(hs.map f++(ko.drop j).map g).set j (f h)=(hs++[h]).map f++(ko.drop (j+1)).map g:=by
 subst hl;rw [List.set_append_right _ _ (by rw [Aj];exact An _),Aj,Da,A6,Du]
 congr 1
 rw [List.drop_eq_getElem_cons hj,Bb];rfl
theorem Wk {σ:St} {H:Hp} {i:Nat} {p:Ac} {ds:List Aa} {Q:VK} (e:σ[i]?=some (some (.ref p))) (l:Lsd K H p ds) (fl:∀ d∈ds,Cod.Flt d) (q:∀ H',qk H H'→Q (.bl (!ds.isEmpty)) H'):tOp (qag K) (qG i) (v0 zu) σ H Q:=by
 refine ⟨_,e,(O0:0≤Af),fun z hz=>?_⟩;have g:=qe hz (.lst []);obtain ⟨vs,h,r⟩:=l.same g;refine ⟨.list ds,.list [],.lst (SqL.of h) r,.lst (SqL.of upd_same) .nil,Cod.JA fl,Cod.JA (fun _ h=>nomatch h),?_⟩;rw [Cod.ZF];exact q _ g
theorem Lsd.at {H:Hp} {p:Ac} {ds:List Aa} {i:Int} {Q:VK} (l:Lsd K H p ds) (h0:0≤i) (h1:i<(ds.length:Int)) (q:∀ v d,d∈ds→Rep K H v d→Q v H):rIx K (.ref p) (.int i) H Q:=by
 obtain ⟨vs,hp,r⟩:=l;have hl:=r.length;obtain ⟨v,hv⟩:=vN (l:=vs) (i:=i.toNat) ⋯;obtain ⟨d,hd,rv⟩:=r.get hv;have ei:i=((i.toNat:Nat):Int):=⋯;refine .inl ⟨p,vs,i,v,rfl,rfl,SqL.of hp,?_,q v d (A0 hd) rv⟩;rw [ei];exact zT hv
theorem Lsd.len {H:Hp} {p:Ac} {ds:List Aa} (l:Lsd K H p ds):qck K (.ref p) H ds.length:=by
 obtain ⟨vs,hp,r⟩:=l;exact .inl ⟨vs,SqL.of hp,r.length.symm⟩
def two (k:Str×Option Nat):Aa:= .tuple [.str k.1,Cod.Vl (k.2.map fun o:Nat=>(o:Int))]
def Kds (ko:List (Str×Option Nat)):Prop:=∀ i k,ko[i]?=some k→if i=0 then k.1=("main":Str)∧k.2=none else (k.1=("fun":Str)∨k.1=("loop":Str))∧∃ o,k.2=some o∧o<i
theorem Zo (ko:List (Str×Option Nat)):Cod.zB (ko.map two)=true:=Cod.zE fun x hx=>by
 obtain ⟨k,_,rfl⟩:=A3.mp hx;obtain ⟨k,o⟩:=k;cases o <;> rfl
structure Sth (K:Frag) (a t:Ac) (H H':Hp) (p:Ac):Prop where
 rest:∀ v o,v≠t→v≠p→H v=some o→H' v=some o
 tp:Tp K a 7 H' t
 ap:Apt K a p
 fr:H p=none
 nt:t≠p
theorem qb7 {σ:St} {H:Hp} {Q:VK} {p:Ac} {ds:List Aa} (l:Lsd K H p ds) (hl:ds.length≤1000) (hd:∀ d∈ds,∃ w k,d=Cod.plc w k)
  (q:∀ p2 H' es,H p2=none→qk H H'→Lsd K H' p2 es→(∀ e∈es,e∈ds∧∀ k,e≠Cod.plc "slot" k)→Q (.ref p2) H'):
  zK (Itl K p) [none] (qC 0) (Vq (tOp rNe (tOp (rIx K) (qG 0) (tC (.int 0))) (tC (.str "slot")))) (qG 0) σ H Q:=by
 obtain ⟨vs,hv,r⟩:=l;have hlen:=r.length;refine zd ds.length (fun i ys H'=>H'=H∧∃ es,Reps K H ys es∧es.length≤i∧∀ e∈es,e∈ds∧∀ k,e≠Cod.plc "slot" k) ⟨rfl,[],.nil,An _,fun _ h=>nomatch h⟩ (fun i ys H' h=>?_) (As hl O0) (fun i ys H' hi h=>?_) (fun ys H' h=>?_)
 ·obtain ⟨_,es,r,h,_⟩:=h;rw [r.length];exact h
 ·obtain ⟨rfl,es,re,le,he⟩:=h;obtain ⟨v,hvi⟩:=vN (l:=vs) (i:=i) ⋯;obtain ⟨d,hdi,rv⟩:=r.get hvi;refine ⟨⟨vs,v,SqL.of hv,hvi⟩,fun x H2 yl=>?_⟩;obtain ⟨rfl,e⟩:=yl;have e:=e _ (SqL.of hv);rw [hvi] at e;cases e;have hdm:=A0 hdi;obtain ⟨w,k,rfl⟩:=hd d hdm;refine ⟨_,rfl,ixr (i:=0) rv rfl fun u ru=>?_⟩;cases ru;refine ⟨rfl,_,rfl,?_⟩;rw [v7];refine qN (fun h=>?_) fun h=>?_
  ·refine ⟨_,rfl,rfl,es++[Cod.plc w k],re.append (.cons rv .nil),by rw [Ax];exact Dk le,fun e hm=>?_⟩
   rcases Az.mp hm with hm | hm
   ·exact he e hm
   ·cases Ay.mp hm;refine ⟨hdm,fun k' z=>?_⟩;have hw:w="slot":=by
     unfold Cod.plc at z;injection z with z
     injection z with z
     exact PyData.str.inj z
    rw [hw] at h;exact absurd h ∅
  ·exact ⟨rfl,es,re,Dt le,he⟩
 ·obtain ⟨rfl,es,re,le,he⟩:=h;exact ⟨⟨vs,SqL.of hv,⋯⟩,fun D hD=>q D _ es hD (qe hD _) ⟨ys,upd_same,re.same (qe hD _)⟩ he⟩
theorem qef {σ:St} {H:Hp} {Q:VK} {a t:Ac} {n:Nat} (hn:n≤7) (tp:Tp K a 7 H t) (ht:σ[0]?=some (some (.ref t)))
  (q:∀ p H' (bs:List Nat),H p=none→Stay t H H'→Tp K a 7 H' t→H' p=some (.lst (bs.map nV))→bs.Pairwise (· < ·)→(∀ b∈bs,b<n)→bs.length≤n→Q (.ref p) H'):
  zK (Itr 0 n) [none,some 0] (qC 0) (Vq (tOp rEq (jA (zH K) [] E0 (qw (qG 1) (qw (tC (.int 3)) zu))) (tC (.int 0)))) (qG 0) σ H Q:=by
 obtain ⟨kvs,hkv⟩:=tp.dk;refine zd n (fun i ys H'=>Stay t H H'∧Tp K a 7 H' t∧∃ bs:List Nat,ys=bs.map nV∧bs.Pairwise (· < ·)∧(∀ b∈bs,b<i)∧bs.length≤i) ⟨Stay.of hkv (qk.refl _),tp,[],rfl,List.Pairwise.nil,fun _ h=>(nomatch h),An _⟩ (fun i ys H' h=>?_) (As (show n≤100 from ⋯) O0) (fun i ys H' hi h=>?_) (fun ys H' h=>?_)
 ·obtain ⟨_,_,bs,rfl,_,_,h⟩:=h;rw [Aj];exact h
 ·obtain ⟨st,tp1,bs,rfl,pw,lt,le⟩:=h;refine ⟨hi,fun x H2 yl=>?_⟩;obtain ⟨rfl,rfl⟩:=yl;have h1:((zm [none,some 0] σ).set 0 (some (.int (0+(i:Nat)))))[1]?=some (some (.ref t)):=by
   show some (σ[0]?.join)=_;rw [ht];rfl
  refine ⟨_,h1,t,3,a,7,rfl,tp1,O0,fun k H3 k0 k1 st3 tp3=>⟨rfl,_,rfl,qN (fun h=>?_) fun h=>?_⟩⟩
  ·refine ⟨_,rfl,st.trans st3,tp3,bs++[i],?_,?_,?_,?_⟩
   ·rw [A6,Dl];rfl
   ·exact List.pairwise_append.mpr ⟨pw,by simp,fun x hx y hy=>by
     rw [Ay.mp hy];exact lt x hx⟩
   ·intro b hb;rcases Az.mp hb with hb | hb
    ·exact Nat.lt_succ_of_lt (lt b hb)
    ·rw [Ay.mp hb];exact D8 _
   ·rw [Ax];exact Dk le
  ·exact ⟨st.trans st3,tp3,bs,rfl,pw,fun b hb=>Nat.lt_succ_of_lt (lt b hb),Dt le⟩
 ·obtain ⟨st,tp1,bs,rfl,pw,lt,le⟩:=h;refine ⟨An _,fun D hD=>q D _ bs ?_ (st.then (qe hD _)) (tp1.stay (qe hD _)) upd_same pw lt le⟩;exact st.free hD
theorem XF {h:Cod.Hd} (ht:Cod.zB h.taken=true):Cod.noL (.tuple h.d7)=true:=by
 have e:Cod.zB ((h.boxed.map fun b:Nat=>(b:Int)).map PyData.int)=true:=Cod.zE fun x hx=>by
  obtain ⟨i,_,rfl⟩:=A3.mp hx;rfl
 have eo:Cod.noL (Cod.Vl (h.outer.map fun o:Nat=>(o:Int)))=true:=by cases h.outer <;> rfl
 show (true&&(Cod.noL (Cod.Vl (h.outer.map fun o:Nat=>(o:Int)))&&(true&&(true&&(true&&(Cod.zB ((h.boxed.map fun b:Nat=>(b:Int)).map PyData.int)&&(Cod.zB h.taken&&true)))))))=true;rw [e,eo,ht];rfl
theorem Vm {h:Cod.Hd} {l:List Aa} (hl:∀ d∈l,d∈h.places):Cod.zB l=true:=Cod.zE fun d hd=>by
 obtain ⟨w,k,rfl,_⟩:=Cod.wZ (hl d hd);rfl
theorem XN (h:Cod.Hd) (h1:h.names≤7) (h2:h.boxed.length≤7) (h3:h.taken.length≤3):h.places.length≤17:=by
 unfold Cod.Hd.places Cod.ja;rw [Ax,Ax,Aj,Aj,Aj,Dh];have:(Cod.yB h.names h.boxed).length≤h.names:=As (Db _ _) (by rw [Dh];exact An _)
 omega
theorem qd7 {σ:St} {H:Hp} {Q:VK} {a t p:Ac} {n:Nat} {ds:List Aa} (hn:n≤3) (tp:Tp K a 7 H t) (l:Lsd K H p ds) (h0:ds=[]→n=0) (ht:σ[0]?=some (some (.ref t))) (hs:σ[9]?=some (some (.ref p)))
  (q:∀ r H' (es:List Aa),H r=none→Stay t H H'→Tp K a 7 H' t→Lsd K H' r es→es.length=n→(∀ e∈es,e∈ds)→Q (.ref r) H'):
  zK (Itr 0 n) [none,some 9,some 0] (qC 0) Jw (tOp (rIx K) (qG 1) (jA (zH K) [] E0 (qw (qG 2) (qw (tCB (fun xs H Q=>∃ x n,xs=[x]∧qck K x H n∧Q (.int n) H) (qw (qG 1) zu)) zu)))) σ H Q:=by
 obtain ⟨kvs,hkv⟩:=tp.dk;refine zd n (fun i ys H'=>Stay t H H'∧Tp K a 7 H' t∧∃ es:List Aa,Reps K H' ys es∧es.length=i∧∀ e∈es,e∈ds) ⟨Stay.of hkv (qk.refl _),tp,[],.nil,rfl,fun _ h=>(nomatch h)⟩ (fun i ys H' h=>?_) (As (show n≤100 from ⋯) O0) (fun i ys H' hi h=>?_) (fun ys H' h=>?_)
 ·obtain ⟨_,_,es,r,rfl,_⟩:=h;rw [r.length];exact An _
 ·obtain ⟨st,tp1,es,r,rfl,he⟩:=h;refine ⟨hi,fun x H2 yl=>?_⟩;obtain ⟨rfl,rfl⟩:=yl;have h1:((zm [none,some 9,some 0] σ).set 0 (some (.int (0+(es.length:Nat)))))[1]?=some (some (.ref p)):=by
   show some (σ[9]?.join)=_;rw [hs];rfl
  have h2:((zm [none,some 9,some 0] σ).set 0 (some (.int (0+(es.length:Nat)))))[2]?=some (some (.ref t)):=by
   show some (σ[0]?.join)=_;rw [ht];rfl
  have hne:ds≠[]:=fun z=>by have:=h0 z;omega
  have hpos:0<ds.length:=List.length_pos_iff.mpr hne;refine ⟨_,h1,_,h2,_,h1,_,_,rfl,(l.stay st).len,t,_,a,7,rfl,tp1,⋯,fun k H3 k0 k1 st3 tp3=>?_⟩;refine (l.stay (st.trans st3)).at k0 k1 fun v d hd rv=>⟨st.trans st3,tp3,es++[d],(r.stay st3).append (.cons rv .nil),by rw [Ax];rfl,fun e hm=>?_⟩
  rcases Az.mp hm with hm | hm
  ·exact he e hm
  ·cases Ay.mp hm;exact hd
 ·obtain ⟨st,tp1,es,r,el,he⟩:=h;exact ⟨An _,fun D hD=>q D _ es (st.free hD) (st.then (qe hD _)) (tp1.stay (qe hD _)) ⟨ys,upd_same,r.same (qe hD _)⟩ el he⟩
def Za (K:Frag):Sp:=fun vs H Q _=>∃ t a,∃ least:Nat,vs=[.ref t,.int (least:Nat)]∧least≤2∧Tp K a 7 H t∧∀ p H' (hs:List Cod.Hd),H p=none→Stay t H H'→Tp K a 7 H' t→Lsd K H' p (hs.map fun h=> .tuple h.d7)→1≤hs.length→hs.length≤4→(∀ i h,hs[i]?=some h→Cod.HOk least hs i h)→Q (.ref p) H'
seal L2.PE L2.PS L2.PSs L2.PA L2.PT
theorem yS (F:Fun K "_law_heads" "_law_heads" jy f fd) (c:Cs K mg ad) (d_law_draw:Def P w K mg base 1 "_law_draw" ["_law_tape_here","_law_many"] (zH K)) (d_law_places:Def P w K mg base 1 "_law_places" ["_law_heads_here","_law_number"] (qcr K)):FnOk P w K mg base CX0 2 f fd ["_law_tape_here","_law_least"] (Za K):=by
 refine F.ok zg (fun vs H Q E h=>?_) (fun cdv A outer s H vs Q E hr h=>?_)
 ·obtain ⟨t,a,least,rfl,_⟩:=h;rfl
 obtain ⟨t,a,least,rfl,hle,tp,q⟩:=h;have hu64:=vA hr;refine ⟨_,(qf (pst 2 zg.nd (qT (qa (qi (qa qj (qa J8 qb))) qb)))
   (qf (ji Bt rfl (vV rfl c.range_ (qa qc (qa (qH (jf (K:=K) rfl) qc (pdf d_law_draw (qa (pv 0) (qa qc qb)))) qb))) (pgn 3 zg.nd) (qg (je (WF (K:=K) rfl Bu B6 B5 jg (pv 2) (qa (qi (qa (pix K (qT (qa qj (qa qj qb))) (pdf d_law_draw (qa (pv 0) (qa qc qb)))) (qa (pdf d_law_draw (qa (pv 0) (qa (pv 3) qb))) qb))) qb)))))
   (qf (ji Bt rfl (zi rfl c.range_ (qa (qt (jN (K:=K) rfl) (by rfl) c.len_ zR (qa (pv 2) qb)) qb)) (pgn 3 zg.nd) (qf (pst 4 zg.nd (pdf d_law_draw (qa (pv 0) (qa qc qb))))
   (qf (pst 5 zg.nd (qH (jf (K:=K) rfl) (pv 4) (pdf d_law_draw (qa (pv 0) (qa qc qb)))))
   (qf (pst 6 zg.nd (qH (jf (K:=K) rfl) (qH (jf (K:=K) rfl) (pv 5) (pv 1)) (pdf d_law_draw (qa (pv 0) (qa qc qb)))))
   (qf (pst 7 zg.nd (zr (Jy (K:=K) rfl) (by rfl) c.tuple_ zO (qa (qX (sc:=qh jy) (NX:=["_law_tape_here","_law_least","_law_heads_here","_law_number","_law_params","_law_names","_law_slots","_law_boxed","_law_taken","_law_some"]) (N:=["_law_k","_law_tape_here"]) (js:=[none,some 0]) (zi rfl c.range_ (qa (pv 5) qb)) (fun _ _ _ _ _=>(qx (i:=0) (show (["_law_k","_law_tape_here"]:List Str).Nodup from ∅) rfl (Or.inl rfl))) (fun _ _ _ _ _=>(vG (qu ze (pdf d_law_draw (qa (pv 1) (qa qc qb))) qc (qq _)))) (fun _ _ _ _ _=>(pv 0)) (qB rfl) ⟨∅,rfl,∅,∅,rfl,∅⟩) qb)))
   (qf (pst 8 zg.nd (qT qb))
   (qf (qF (qu Zm (pv 3) qc (qq _)) (qf (pst 9 zg.nd (qX (sc:=qh jy) (NX:=["_law_tape_here","_law_least","_law_heads_here","_law_number","_law_params","_law_names","_law_slots","_law_boxed","_law_taken","_law_some"]) (N:=["_law_place"]) (js:=[none]) (Jx (K:=K) rfl (pdf d_law_places (qa (pv 2) (qa (pix K (pix K (pv 2) (pv 3)) qc) qb)))) (fun _ _ _ _ _=>(qx (i:=0) (show (["_law_place"]:List Str).Nodup from ∅) rfl (Or.inl rfl))) (fun _ _ _ _ _=>(vG (qu VA (pix K (pv 0) qc) qj (qq _)))) (fun _ _ _ _ _=>(pv 0)) (qB rfl) ⟨∅,rfl,∅,∅,rfl,∅⟩))
   (qg (Jk (i:=8) zg.nd rfl (by first | exact Or.inl rfl | exact Or.inr rfl) (sc:=qh jy) (NX:=["_law_tape_here","_law_least","_law_heads_here","_law_number","_law_params","_law_names","_law_slots","_law_boxed","_law_taken","_law_some"]) (N:=["_law_k","_law_some","_law_tape_here"]) (js:=[none,some 9,some 0]) (zi rfl c.range_ (qa (qH yR (pdf d_law_draw (qa (pv 0) (qa qc qb))) (zr yp (by rfl) c.int_ Yi (qa (zb (Wl (K:=K) rfl hu64) (pv 9) (qT qb) (qq _)) qb))) qb)) (fun _ _ _ _ _=>(qx (i:=0) (show (["_law_k","_law_some","_law_tape_here"]:List Str).Nodup from ∅) rfl (Or.inl rfl))) (fun _ _ _ _ _=>zn) (fun _ _ _ _ _=>(pix K (pv 1) (pdf d_law_draw (qa (pv 2) (qa (qt (jN (K:=K) rfl) (by rfl) c.len_ zR (qa (pv 1) qb)) qb))))) (qB rfl) ⟨∅,rfl,∅,∅,rfl,∅⟩))) qv)
   (qg (wY (qH (jf (K:=K) rfl) (pix K (pv 2) (pv 3)) (qi (qa (pv 4) (qa (pv 5) (qa (pv 6) (qa (pv 7) (qa (zr (Jy (K:=K) rfl) (by rfl) c.tuple_ zO (qa (pv 8) qb)) qb))))))) (qar (pv 2) (pv 3) Yr))))))))))
   (qg (qm (pv 2)))))),?_⟩
 clear hu64 hr;refine ⟨(O0:2≤Af),fun p0 hp0=>⟨(O0:1≤Af),fun p hp=>?_⟩⟩;have g0:=qe hp0 (.tup [.str "main",.non]);have g1:=g0.trans (qe hp (.lst [.ref p0]));have hp':H p=none:=g0.free hp;have tp1:=tp.stay g1;have ap:=tp.apt hp';obtain ⟨kvs,hkv⟩:=tp.dk;have nt:t≠p:=qr hkv hp';have l1:Lsd K (upd (upd H p0 (.tup [.str "main",.non])) p (.lst [.ref p0])) p ([(("main":Str),(none:Option Nat))].map two):=⟨_,upd_same,.cons (.tup (SqT.of ((qe hp _) _ _ upd_same)) (.cons (.str _) (.cons .non .nil))) .nil⟩;have s1:Sth K a t H (upd (upd H p0 (.tup [.str "main",.non])) p (.lst [.ref p0])) p:=⟨fun v o _ _ e=>g1 v o e,tp1,ap,hp',nt⟩;generalize upd (upd H p0 (.tup [.str "main",.non])) p (.lst [.ref p0])=H1 at s1 l1 ⊢;refine ⟨_,rfl,t,4,a,7,rfl,s1.tp,O0,fun i H2 i0 i1 st2 tp2=> .inl (.inl ⟨_,_,rfl,rfl,1,1+i,rfl,⟨O0,O0,⋯,⋯⟩,?_⟩)⟩;have l2:=l1.stay st2;have s2:Sth K a t H H2 p:=⟨fun v o hv hw e=>st2.rest v o hv (s1.rest v o hv hw e),tp2,ap,hp',nt⟩;have kd1:Kds [(("main":Str),(none:Option Nat))]:=fun i k h=>by
  cases i with
  | zero=>cases h;exact ⟨rfl,rfl⟩
  | succ i=>simp at h
 refine jn (1+i - 1).toNat (fun j σ H'=>Sth K a t H H' p∧∃ ko o3,Lsd K H' p (ko.map two)∧Kds ko∧ko.length=j+1∧σ=[some (.ref t),some (.int (least:Nat)),some (.ref p),o3,none,none,none,none,none,none]) ⟨s2,_,none,l2,kd1,rfl,rfl⟩ (fun j σ H' hj h=>?_) (fun σ H' h=>?_)
 ·obtain ⟨s3,ko,o3,l3,kd3,hk3,rfl⟩:=h;refine ⟨hj,fun x H3 yl N hN=>?_⟩;obtain ⟨rfl,rfl⟩:=yl;obtain ⟨vs3,hv3,r3⟩:=l3;refine ⟨_,rfl,.inl ⟨rfl,_,SqL.of hv3⟩,?_⟩;refine ⟨(O0:2≤Af),fun q1 hq1=>⟨_,rfl,t,2,a,7,rfl,s3.tp.stay (qe hq1 _),O0,fun i4 H4 j0 j1 st4 tp4=>?_⟩⟩;obtain ⟨v,hv,z,rfl,hz⟩:=vZ (xs:=[V.str "fun",V.str "loop"]) (i:=i4) (p:=fun v=>∃ z:Str,v= .str z∧(z="fun"∨z="loop")) (by
   simp only [Av,A7,or_false];rintro x (rfl | rfl)
   ·exact ⟨_,rfl,.inl rfl⟩
   ·exact ⟨_,rfl,.inr rfl⟩) j0 j1
  refine .inl ⟨q1,_,i4,_,rfl,rfl,st4.sqL (SqL.of upd_same),hv,?_⟩;refine ⟨_,rfl,_,rfl,t,_,a,7,rfl,tp4,⋯,fun i5 H5 k0 k1 st5 tp5=>?_⟩;obtain ⟨o5,rfl⟩:∃ o5:Nat,i5=(o5:Nat):=⟨i5.toNat,⋯⟩;refine ⟨(O0:2≤Af),fun q2 hq2=>?_⟩;have st:Stay t H3 H5:=(Stay.after (qe hq1 _) s3.tp.dk.choose_spec st4).trans st5;have g6:=qe hq2 (.tup [.str z,.int (o5:Nat)]);have hv6:=g6 _ _ (st.rest _ _ nt.symm hv3);have r6:=(r3.stay st).same g6;have tp6:=tp5.stay g6;have rn:Rep K (upd H5 q2 (.tup [.str z,.int (o5:Nat)])) (.ref q2) (two (z,some o5)):= .tup (SqT.of upd_same) (.cons (.str z) (.cons (.int _) .nil));have rest6:∀ v o,v≠t→v≠p→H v=some o→upd H5 q2 (.tup [.str z,.int (o5:Nat)]) v=some o:=fun v o h1 h2 e=>g6 _ _ (st.rest v o h1 (s3.rest v o h1 h2 e));generalize upd H5 q2 (.tup [.str z,.int (o5:Nat)])=H6 at hv6 r6 tp6 rn rest6 ⊢;have hlen:=r3.length;rw [Aj] at hlen;refine ⟨p,vs3,.ref q2,rfl,rfl,hv6,Cb (show vs3.length≤100 from ⋯) O0,hN _ _ ⟨⟨fun v o h1 h2 e=>by rw [qo h2];exact rest6 v o h1 h2 e,tp6.putL ap hv6 _,ap,hp',nt⟩,ko++[(z,some o5)],_,⟨_,upd_same,?_⟩,?_,?_,rfl⟩⟩
  ·rw [A6];have e:Cod.zB (ko.map two++[(z,some o5)].map two)=true:=by rw [← A6];exact Zo _
   exact Reps.putL hv6 (r6.append (.cons rn .nil)) e
  ·intro i k hk
   by_cases hi:i<ko.length
   ·rw [Br hi] at hk;exact kd3 i k hk
   ·rw [Bz ⋯] at hk;have hi2:i=ko.length:=by
     have:=(A2.mp hk).1;simp at this;omega
    subst hi2;rw [Da] at hk;cases hk;rw [if_neg ⋯];exact ⟨hz,o5,rfl,⋯⟩
  ·rw [Ax,hk3];rfl
 ·obtain ⟨s3,ko,o3,l3,kd3,hk3,rfl⟩:=h;refine ⟨An _,?_⟩;have hko:ko.length≤4:=⋯;have hko1:1≤ko.length:=⋯;refine ⟨_,rfl,_,_,rfl,l3.len,?_⟩;rw [Aj];refine ⟨_,rfl,⋯,⋯,?_⟩;rw [Bf];clear s1 l1 s2 l2 st2 tp2 tp1;refine jn ko.length (fun j σ H'=>Sth K a t H H' p∧∃ (hs:List Cod.Hd) (o3 o4 o5 o6 o7 o8 o9:Option V),Lsd K H' p ((hs.map fun h=> .tuple h.d7)++(ko.drop j).map two)∧hs.length=j∧(∀ i h,hs[i]?=some h→Cod.HOk least hs i h)∧Cod.zB (hs.map fun h=> .tuple h.d7)=true∧σ=[some (.ref t),some (.int (least:Nat)),some (.ref p),o3,o4,o5,o6,o7,o8,o9]) ⟨s3,[],o3,none,none,none,none,none,none,l3,rfl,fun i h e=>by simp at e,rfl,rfl⟩ (fun j σ H' hj h=>?_) (fun σ H' h=>?_)
  ·obtain ⟨s4,hs,o3,o4,o5,o6,o7,o8,o9,l4,hsl,hok,nol,rfl⟩:=h;refine ⟨hj,fun x H5 yl N hN=>?_⟩;obtain ⟨rfl,rfl⟩:=yl;rw [Dl];refine ⟨_,rfl,t,5,a,7,rfl,s4.tp,O0,fun i1 H1 a0 a1 st1 tp1=>?_⟩;obtain ⟨pa,rfl⟩:∃ n:Nat,i1=(n:Nat):=⟨i1.toNat,⋯⟩;refine ⟨_,rfl,_,rfl,t,4,a,7,rfl,tp1,O0,fun i2 H2 b0 b1 st2 tp2=>?_⟩;obtain ⟨nb,rfl⟩:∃ n:Nat,i2=(n:Nat):=⟨i2.toNat,⋯⟩;refine .inl (Xf ?_);refine ⟨_,rfl,_,rfl,.inl (Xf ⟨_,rfl,t,4,a,7,rfl,tp2,O0,fun i3 H3 c0 c1 st3 tp3=>?_⟩)⟩;obtain ⟨sb,rfl⟩:∃ n:Nat,i3=(n:Nat):=⟨i3.toNat,⋯⟩;refine .inl (Xf ?_);refine ⟨_,rfl,_,rfl,⋯,⋯,qef (n:=pa+nb) ⋯ tp3 rfl fun p4 H4 bs hp4 st4 tp4 hl4 pw blt ble=>⟨p4,_,rfl,.inl ⟨SqL.of hl4,fun p5 hp5=>?_⟩⟩⟩;refine Qj fun p6 hp6=>?_;have stA:Stay t H5 H4:=((st1.trans st2).trans st3).trans st4;have g5:=qe hp5 (.tup (bs.map nV));have g6:=g5.trans (qe hp6 (.lst []));have st6:Stay t H5 (upd (upd H4 p5 (.tup (bs.map nV))) p6 (.lst [])):=stA.then g6;have tp6:=tp4.stay g6;have l6:=l4.stay st6;have bq:Rep K (upd (upd H4 p5 (.tup (bs.map nV))) p6 (.lst [])) (.ref p5) (.tuple ((bs.map fun b:Nat=>(b:Int)).map .int)):= .tup (SqT.of ((qe hp6 _) _ _ upd_same)) (by
    have:=Reps.ints (K:=K) (H:=upd (upd H4 p5 (.tup (bs.map nV))) p6 (.lst [])) (bs.map fun b:Nat=>(b:Int));rw [Bm] at this;exact this)
   have tl6:Lsd K (upd (upd H4 p5 (.tup (bs.map nV))) p6 (.lst [])) p6 []:=⟨[],upd_same,.nil⟩;have np6:p6≠p:=by
    obtain ⟨vs,hv,_⟩:=l4.stay (stA.then g5);exact (qr hv hp6).symm
   generalize upd (upd H4 p5 (.tup (bs.map nV))) p6 (.lst [])=H6 at g6 st6 tp6 l6 bq tl6 ⊢;clear st1 tp1 st2 tp2 st3 tp3 st4 tp4 hl4 hp4 hp5 hp6 g5 g6 stA;obtain ⟨⟨kind,out⟩,hkj⟩:∃ k,ko[j]?=some k:=⟨_,Ah hj⟩;have kdj:=kd3 j _ hkj;have datj:((hs.map fun h=>PyData.tuple h.d7)++(ko.drop j).map two)[j]?=some (two (kind,out)):=by
    rw [Bz (by rw [Aj,hsl];exact An _),Aj,hsl,Da,Au,List.getElem?_drop,Nat.add_zero,hkj]
    rfl
   show Jn _ _ _ [some (.ref t),some (.int (least:Nat)),some (.ref p),some (nV j),some (nV pa),some (nV (pa+nb)),some (nV (pa+nb+least+sb)),some (.ref p5),some (.ref p6),o9] H6;refine jB fun D1 hD1 _=>vx fun B bb1 bb2=>?_;have fin:∀ (H7:Hp) (tl:Ac) (es:List Aa) (o9:Option V),Stay t H6 H7→Tp K a 7 H7 t→Lsd K H7 tl es→Cod.zB es=true→es.length≤3→(j=0→es=[])→(∀ o h',out=some o→hs[o]?=some h'→∀ d∈es,d∈h'.places∧∀ k,d≠Cod.plc "slot" k)→D1.nx [some (.ref t),some (.int (least:Nat)),some (.ref p),some (nV j),some (nV pa),some (nV (pa+nb)),some (nV (pa+nb+least+sb)),some (.ref p5),some (.ref tl),o9] H7:=fun H7 tl es o9 st7 tp7 ltl nes les es0 esf=>by
    refine hD1 _ _ ?_;obtain ⟨vs,hvs,rvs⟩:=l6.stay st7;have hlen:=rvs.length;obtain ⟨hjl,_⟩:=A2.mp datj;obtain ⟨v,hv⟩:=vN (l:=vs) (i:=j) ⋯;obtain ⟨d,hd,rv⟩:=rvs.get hv;rw [datj] at hd;cases hd;have bq7:=bq.stay st7;obtain ⟨ws,hws,rws⟩:=ltl;refine ⟨_,rfl,_,rfl,AtX.ix ⟨p,vs,rfl,.inl (SqL.of hvs),hv⟩ ?_⟩;refine ⟨_,rfl,_,rfl,_,rfl,_,rfl,_,rfl,tl,ws,rfl,.inl ⟨SqL.of hws,fun q1 hq1=>⟨(O0:5≤Af),fun q2 hq2=>?_⟩⟩⟩;have g8:=(qe hq1 (.tup ws)).trans (qe hq2 (.tup [nV pa,nV (pa+nb),nV (pa+nb+least+sb),.ref p5,.ref q1]));have rv8:=rv.same g8;have hq2':SqT K (upd (upd H7 q1 (.tup ws)) q2 (.tup [nV pa,nV (pa+nb),nV (pa+nb+least+sb),.ref p5,.ref q1])) q2 [nV pa,nV (pa+nb),nV (pa+nb+least+sb),.ref p5,.ref q1]:=SqT.of upd_same;have rq1:Rep K (upd (upd H7 q1 (.tup ws)) q2 (.tup [nV pa,nV (pa+nb),nV (pa+nb+least+sb),.ref p5,.ref q1])) (.ref q1) (.tuple es):= .tup (SqT.of ((qe hq2 _) _ _ upd_same)) (rws.same g8);have bq8:=bq7.same g8;have hvs8:=g8 _ _ hvs;have rvs8:=rvs.same g8;have tp8:=tp7.stay g8;have st8:Stay t H5 (upd (upd H7 q1 (.tup ws)) q2 (.tup [nV pa,nV (pa+nb),nV (pa+nb+least+sb),.ref p5,.ref q1])):=(st6.trans st7).then g8;generalize upd (upd H7 q1 (.tup ws)) q2 (.tup [nV pa,nV (pa+nb),nV (pa+nb+least+sb),.ref p5,.ref q1])=H8 at rv8 hq2' rq1 bq8 hvs8 rvs8 tp8 st8 ⊢;cases rv8 with
    | @tup va vxs _ hvq hvr=>
     have hvl:=hvr.length;refine .inr ⟨va,q2,vxs,_,rfl,rfl,hvq,hq2',?_,fun cc H9 g9 hcc=>?_⟩
     ·rw [hvl];show 2+5≤Af;decide
     ·have e9:Rep K H9 (.ref cc) (.tuple (Cod.Hd.d7 ⟨kind,out,pa,pa+nb,pa+nb+least+sb,bs,es⟩)):= .tup hcc ((hvr.same g9).append (.cons (.int _) (.cons (.int _) (.cons (.int _) (.cons (bq8.same g9) (.cons (rq1.same g9) .nil))))));have hix:ixN vs.length ((j:Nat):Int)=some j:=by
       unfold ixN;rw [if_pos ⋯,if_pos ⋯,Bf]
      have hvs9:=g9 _ _ hvs8;have rvs9:=rvs8.same g9;refine ⟨_,rfl,_,rfl,p,vs,_,j,rfl,rfl,hvs9,hix,hN _ _ ⟨⟨fun v o h1 h2 e=>by rw [qo h2];exact g9 _ _ (st8.rest v o h1 (s4.rest v o h1 h2 e)),(tp8.stay g9).putL ap hvs9 _,ap,hp',nt⟩,hs++[⟨kind,out,pa,pa+nb,pa+nb+least+sb,bs,es⟩],_,_,_,_,_,_,_,⟨_,upd_same,?_⟩,by rw [Ax,hsl];rfl,?_,?_,rfl⟩⟩
      ·have rs:=YB e9 j rvs9;rw [qcw (f:=fun h:Cod.Hd=>PyData.tuple h.d7) (h:=⟨kind,out,pa,pa+nb,pa+nb+least+sb,bs,es⟩) hsl hj] at rs;refine Reps.putL hvs9 rs ?_;rw [Cod.JR,Zo,A6,Cod.JR,nol];show (true&&(Cod.noL (.tuple (Cod.Hd.d7 ⟨kind,out,pa,pa+nb,pa+nb+least+sb,bs,es⟩))&&true)&&true)=true;rw [XF nes];rfl
      ·intro i h hi
       by_cases hlt:i<hs.length
       ·rw [Br hlt] at hi;have hk:=hok i h hi;refine ⟨hk.kd,hk.pa,hk.pn,hk.nm,hk.s1,hk.s2,hk.br,hk.bl,hk.bn,hk.tk,hk.t0,fun o h' ho hh=>hk.tf o h' ho ?_⟩;have hoi:o<i:=by
         have kk:=hk.kd
         by_cases z:i=0
         ·rw [if_pos z] at kk;rw [kk.2] at ho;cases ho
         ·rw [if_neg z] at kk;obtain ⟨_,o',e',lt⟩:=kk;rw [e'] at ho;cases ho;exact lt
        rw [Br ⋯] at hh;exact hh
       ·rw [Bz ⋯] at hi;have hij:i=hs.length:=by
         have:=(A2.mp hi).1;simp at this;omega
        subst hij;rw [Da] at hi;cases hi;refine ⟨by rw [hsl];exact kdj,by show pa≤4;omega,by show pa≤pa+nb;omega,by show pa+nb≤7;omega,by show pa+nb+least≤pa+nb+least+sb;omega,by show pa+nb+least+sb≤pa+nb+least+3;omega,pw,blt,by show bs.length≤7;omega,les,fun z=>es0 ⋯,fun o h' ho hh=>esf o h' ho ?_⟩
        have hoi:o<hs.length:=by
         by_cases z:j=0
         ·rw [if_pos z] at kdj;have e':out=none:=kdj.2;have ho':out=some o:=ho;rw [e'] at ho';cases ho'
         ·rw [if_neg z] at kdj;obtain ⟨_,o',e',lt⟩:=kdj;have e'':out=some o':=e';have ho':out=some o:=ho;rw [e''] at ho';cases ho';omega
        rw [Br hoi] at hh;exact hh
      ·rw [A6,Cod.JR,nol];show (true&&(Cod.noL (.tuple (Cod.Hd.d7 ⟨kind,out,pa,pa+nb,pa+nb+least+sb,bs,es⟩))&&true))=true;rw [XF nes];rfl
   refine ⟨_,rfl,_,_,rfl,rfl,_,rfl,?_⟩;obtain ⟨kv6,hkv6⟩:=tp6.dk
   by_cases hj0:j=0
   ·refine bN (Ao ⋯) (bb2 _ (fin H6 p6 [] o9 (Stay.of hkv6 (qk.refl _)) tp6 tl6 rfl O0 (fun _=>rfl) fun o h' _ _ d hd=>(nomatch hd)))
   ·refine bP (Am ⋯) (bb1 _ ?_);have kdj2:=kdj;rw [if_neg hj0] at kdj2;obtain ⟨_,o,eo,lto⟩:=kdj2;have eo':out=some o:=eo;subst eo';obtain ⟨ho,hho⟩:∃ h,hs[o]?=some h:=⟨_,Ah ⋯⟩;have hk:=hok o ho hho;obtain ⟨vs,hvs,rvs⟩:=l6;have hlen:=rvs.length;obtain ⟨hjl,_⟩:=A2.mp datj;obtain ⟨v,hv⟩:=vN (l:=vs) (i:=j) ⋯;obtain ⟨d,hd,rv⟩:=rvs.get hv;rw [datj] at hd;cases hd;have dato:((hs.map fun h=>PyData.tuple h.d7)++(ko.drop j).map two)[o]?=some (.tuple ho.d7):=by
     rw [Br (by rw [Aj];omega),Au,hho]
     rfl
    obtain ⟨vo,hvo⟩:=vN (l:=vs) (i:=o) ⋯;obtain ⟨d,hd,rvo⟩:=rvs.get hvo;rw [dato] at hd;cases hd;refine ⟨_,rfl,_,rfl,_,rfl,AtX.ix ⟨p,vs,rfl,.inl (SqL.of hvs),hv⟩ (ixr (i:=1) rv rfl fun u ru=>?_)⟩;cases ru;have nm:=hk.nm;have bn:=hk.bn;have tk:=hk.tk;refine ⟨.ref p,o,vo,_,_,_,_,ho.names,ho.boxed,ho.taken,[],rfl,⟨p,vs,rfl,.inl (SqL.of hvs),hvo⟩,rvo,⋯,⋯,⋯,fun p7 H7 hp7 g7 l7=> .inl ⟨p7,rfl,?_,qb7 l7 ?_ (fun d hd=>?_) fun p8 H8 es8 hp8 g8 l8 he8=>?_⟩⟩
    ·obtain ⟨ws,hw,_⟩:=l7;exact ⟨ws,SqL.of hw⟩
    ·have:=XN ho nm bn tk;unfold Cod.Hd.places at this;omega
    ·obtain ⟨w,k,e,_⟩:=Cod.wZ (h:=ho) hd;exact ⟨w,k,e⟩
    have g68:=g7.trans g8;have tp8:=tp6.stay g68;have fl8:∀ d∈es8,Cod.Flt d:=fun d hd=>by
     obtain ⟨w,k,rfl,hw⟩:=Cod.wZ (h:=ho) (he8 d hd).1;exact Cod.y9 hw
    refine ⟨_,rfl,t,4,a,7,rfl,tp8,O0,fun i9 H9 i0 i1 st9 tp9=>Wk rfl (l8.stay st9) fl8 fun H10 g10=> .inr ⟨_,rfl,_,_,rfl,rfl,.inl ⟨?_,?_⟩,?_⟩⟩
    ·omega
    ·omega
    have st10:Stay t H6 H10:=((Stay.of hkv6 g68).trans st9).then g10;have tp10:=tp9.stay g10;have l10:=(l8.stay st9).same g10;obtain ⟨n9,en9,ln9,z9⟩:∃ n:Nat,i9*(if (!es8.isEmpty)=true then 1 else 0)=(n:Nat)∧n≤3∧(es8=[]→n=0):=by
     cases es8 with
     | nil=>exact ⟨0,by simp,O0,fun _=>rfl⟩
     | cons x y=>exact ⟨i9.toNat,by simp;omega,⋯,fun z=>by cases z⟩
    refine ⟨n9,congrArg (fun z=>[V.int z]) en9,⋯,⋯,?_⟩;rw [Bf];refine qd7 ln9 tp10 l10 z9 rfl rfl fun r H11 es hr st11 tp11 l11 el he=>?_;exact fin H11 r es _ (st10.trans st11) tp11 l11 (Vm (h:=ho) fun d hd=>(he8 d (he d hd)).1) ⋯ (fun z=>absurd z hj0) fun o2 h2 e2 hh2 d hd=>by
     cases e2;rw [hho] at hh2;cases hh2;exact he8 d (he d hd)
  ·obtain ⟨s4,hs,o3,o4,o5,o6,o7,o8,o9,l4,hsl,hok,nol,rfl⟩:=h;refine ⟨An _,_,rfl,?_⟩;rw [List.drop_length,List.map_nil,Cj] at l4;exact q p H' hs hp' ⟨tp.dk,s4.tp.dk,fun v o hv e=>s4.rest v o hv (qr e hp') e⟩ s4.tp l4 ⋯ ⋯ hok
abbrev hsD (hs:List Cod.Hd):List Aa:=hs.map fun h=> .tuple h.d7
theorem yg {H:Hp} {p:Ac} {hs:List Cod.Hd} {i:Nat} {h:Cod.Hd} (l:Lsd K H p (hsD hs)) (e:hs[i]?=some h):∃ v,AtX K H (.ref p) i v∧Rep K H v (.tuple h.d7):=by
 obtain ⟨vs,hp,r⟩:=l;have hl:=r.length;have e':(hsD hs)[i]?=some (.tuple h.d7):=by rw [Au,e];rfl
 obtain ⟨hi,_⟩:=A2.mp e';obtain ⟨v,hv⟩:=vN (l:=vs) (i:=i) ⋯;obtain ⟨d,hd,rv⟩:=r.get hv;rw [e'] at hd;cases hd;exact ⟨v,⟨p,vs,rfl,.inl (SqL.of hp),hv⟩,rv⟩
theorem qd4 {H:Hp} {v:V} {h:Cod.Hd} (r:Rep K H v (.tuple h.d7)):∃ va x0 x1 x2 x5 x6,v= .ref va∧SqT K H va [x0,x1,x2,nV h.names,nV h.slots,x5,x6]:=by
 cases r with
 | tup hq r=>
  cases r with
  | cons _ r=>cases r with
   | cons _ r=>cases r with
    | cons _ r=>cases r with
     | cons r3 r=>cases r with
      | cons r4 r=>cases r with
       | cons _ r=>cases r with
        | cons _ r=>cases r with
         | nil=>
          cases r3;cases r4;exact ⟨_,_,_,_,_,_,rfl,hq⟩
theorem qhx {H:Hp} {v:V} {h:Cod.Hd} {Q:VK} (r:Rep K H v (.tuple h.d7)) (q:∀ c,H c=none→Q (.ref c) (upd H c (.tup [nV h.names,nV h.slots]))):qaf K v (some 3) (some 5) H Q:=by
 obtain ⟨va,x0,x1,x2,x5,x6,rfl,hq⟩:=qd4 r;exact .inr (.inr ⟨va,_,rfl,hq,(show ¬ (HT.sIx 7 0 (some 3)=0∧HT.sIx 7 7 (some 5)=7) from O0),q⟩)
theorem ixL {H:Hp} {r:Ac} {xs:List V} {k:Nat} {v:V} {Q:VK} (h:H r=some (.lst xs)) (e:xs[k]?=some v) (q:Q v H):rIx K (.ref r) (.int (k:Nat)) H Q:= .inl ⟨r,xs,(k:Nat),v,rfl,rfl,SqL.of h,zT e,q⟩
theorem qhl {a b:Nat} {H:Hp} {Q:VK} (h:b≤a) (q:Q (nV (a - b)) H):rI0 (fun i j=> .int (i - j)) (nV a) (nV b) H Q:=⟨_,_,rfl,rfl,by
 show Q (.int ((a:Int) - (b:Int))) H;rw [← Int.natCast_sub h];exact q⟩
theorem Y9 {js:List (Option Nat)} {σ:St} {H:Hp} {Q:VK} {a t:Ac} {n:Nat} {h:Cod.Hd} (hn:n≤9) (tp:Tp K a 7 H t) (hlt:h.names<h.slots)
  (hσ:∀ x,((zm js σ).set 0 x)[1]?=some (some (nV h.names))∧((zm js σ).set 0 x)[2]?=some (some (.ref t))∧((zm js σ).set 0 x)[3]?=some (some (nV h.slots)))
  (q:∀ r H' (ss:List Nat),H r=none→Stay t H H'→Tp K a 7 H' t→H' r=some (.lst (ss.map nV))→ss.length=n→(∀ s∈ss,Cod.Mid h s)→Q (.ref r) H'):
  zK (Itr 0 n) js (qC 0) Jw (tOp JP (qG 1) (jA (zH K) [] E0 (qw (qG 2) (qw (tOp (rI0 fun i j=> .int (i - j)) (qG 3) (qG 1)) zu)))) σ H Q:=by
 obtain ⟨kvs,hkv⟩:=tp.dk;refine zd n (fun i ys H'=>Stay t H H'∧Tp K a 7 H' t∧∃ ss:List Nat,ys=ss.map nV∧ss.length=i∧∀ s∈ss,Cod.Mid h s) ⟨Stay.of hkv (qk.refl _),tp,[],rfl,rfl,fun _ h=>(nomatch h)⟩ (fun i ys H' h=>?_) (As (show n≤100 from ⋯) O0) (fun i ys H' hi h'=>?_) (fun ys H' h=>?_)
 ·obtain ⟨_,_,ss,rfl,rfl,_⟩:=h;rw [Aj];exact An _
 ·obtain ⟨st,tp1,ss,rfl,rfl,hm⟩:=h';refine ⟨hi,fun x H2 yl=>?_⟩;obtain ⟨rfl,rfl⟩:=yl;obtain ⟨e1,e2,e3⟩:=hσ (some (.int (0+(ss.length:Nat))));refine ⟨_,e1,_,e2,_,e3,_,e1,qhl ⋯ ⟨t,_,a,7,rfl,tp1,⋯,fun k H3 k0 k1 st3 tp3=>?_⟩⟩;obtain ⟨k,rfl⟩:∃ n:Nat,k=(n:Nat):=⟨k.toNat,⋯⟩;refine Xf ⟨st.trans st3,tp3,ss++[h.names+k],by rw [A6];rfl,by rw [Ax];rfl,fun s hs=>?_⟩
  rcases Az.mp hs with hs | hs
  ·exact hm s hs
  ·rw [Ay.mp hs];exact ⟨⋯,⋯⟩
 ·obtain ⟨st,tp1,ss,rfl,el,hm⟩:=h;exact ⟨An _,fun D hD=>q D _ ss (st.free hD) (st.then (qe hD _)) (tp1.stay (qe hD _)) upd_same el hm⟩
theorem qeb {σ:St} {H:Hp} {Q:VK} {p:Ac} {hs:List Cod.Hd} {i:Nat} (l:Lsd K H p (hsD hs)) (hl:hs.length≤4)
  (hσ:σ[1]?=some (some (.ref p))∧σ[2]?=some (some (nV i)))
  (q:∀ r H' (ms:List Nat),H r=none→qk H H'→H' r=some (.lst (ms.map nV))→ms.length≤4→(∀ m∈ms,∃ hj:Cod.Hd,hs[m]?=some hj∧hj.outer=some i)→Q (.ref r) H'):
  zK (Itr 0 hs.length) [none,some 2,some 1] (qC 0) (Vq (tOp rEq (tOp (rIx K) (tOp (rIx K) (qG 2) (qG 0)) (tC (.int 1))) (qG 1))) (qG 0) σ H Q:=by
 refine zd hs.length (fun j ys H'=>H'=H∧∃ ms:List Nat,ys=ms.map nV∧ms.length≤j∧∀ m∈ms,∃ hj:Cod.Hd,hs[m]?=some hj∧hj.outer=some i) ⟨rfl,[],rfl,An _,fun _ h=>(nomatch h)⟩ (fun j ys H' h=>?_) (As (show hs.length≤100 from ⋯) O0) (fun j ys H' hj h=>?_) (fun ys H' h=>?_)
 ·obtain ⟨_,ms,rfl,h,_⟩:=h;rw [Aj];exact h
 ·obtain ⟨rfl,ms,rfl,le,hm⟩:=h;refine ⟨hj,fun x H2 yl=>?_⟩;obtain ⟨rfl,rfl⟩:=yl;have e1:((zm [none,some 2,some 1] σ).set 0 (some (.int (0+(j:Nat)))))[2]?=some (some (.ref p)):=by
   show some (σ[1]?.join)=_;rw [hσ.1];rfl
  have e2:((zm [none,some 2,some 1] σ).set 0 (some (.int (0+(j:Nat)))))[1]?=some (some (nV i)):=by
   show some (σ[2]?.join)=_;rw [hσ.2];rfl
  obtain ⟨hh,ehh⟩:∃ h,hs[j]?=some h:=⟨_,Ah hj⟩;obtain ⟨v,av,rv⟩:=yg l ehh;rw [Dl];rw [Dl] at e1 e2;refine ⟨_,e1,_,rfl,av.ix (ixr (i:=1) rv rfl fun u ru=>⟨_,e2,?_⟩)⟩;have fin:∀ b:Bool,(b=true→hh.outer=some i)→if b=true then (qG 0 ((zm [none,some 2,some 1] σ).set 0 (some (.int (j:Nat)))) H2 fun y H5=>H5=H2∧∃ ms':List Nat,ms.map nV++[y]=ms'.map nV∧ms'.length≤j+1∧∀ m∈ms',∃ hj:Cod.Hd,hs[m]?=some hj∧hj.outer=some i) else (H2=H2∧∃ ms':List Nat,ms.map nV=ms'.map nV∧ms'.length≤j+1∧∀ m∈ms',∃ hj:Cod.Hd,hs[m]?=some hj∧hj.outer=some i):=fun b hb=>qN (fun h=>by
   refine ⟨_,rfl,rfl,ms++[j],by rw [A6];rfl,by rw [Ax];exact Dk le,fun m hm'=>?_⟩
   rcases Az.mp hm' with z | z
   ·exact hm m z
   ·rw [Ay.mp z];exact ⟨hh,ehh,hb h⟩) fun h=>⟨rfl,ms,rfl,Dt le,hm⟩
  cases ho:hh.outer with
  | none=>
   rw [ho] at ru;cases ru;exact ⟨rfl,_,rfl,fin _ fun z=>by cases z⟩
  | some o=>
   rw [ho] at ru;cases ru;exact ⟨rfl,_,rfl,fin _ fun z=>by
    have this:((o:Nat):Int)=((i:Nat):Int):=V.int.inj (Co z);rw [ho];have e:o=i:=⋯;rw [e]⟩
 ·obtain ⟨rfl,ms,rfl,le,hm⟩:=h;exact ⟨An _,fun D hD=>q D _ ms hD (qe hD _) upd_same ⋯ hm⟩
theorem qct {i:Int} (h0:0≤i) (h1:i<5):∃ c,atI (Str.ofString "+-*<=").cps.toList i=some c∧Cod.V6 (.str ⟨#[c]⟩)=true:=by
 obtain ⟨k,rfl⟩:∃ n:Nat,i=(n:Nat):=⟨i.toNat,⋯⟩;have hk:k<5:=⋯;have e:∀ k,k<5→∃ c,(Str.ofString "+-*<=").cps.toList[k]?=some c∧Cod.V6 (.str ⟨#[c]⟩)=true:=by
  intro k hk
  match k,hk with
  | 0,_=>exact ⟨43,∅,∅⟩
  | 1,_=>exact ⟨45,∅,∅⟩
  | 2,_=>exact ⟨42,∅,∅⟩
  | 3,_=>exact ⟨60,∅,∅⟩
  | 4,_=>exact ⟨61,∅,∅⟩
 obtain ⟨c,h,s⟩:=e k hk;exact ⟨c,zT h,s⟩
def yz (K:Frag):Sp:=fun vs H Q _=>∃ t p a i hs h,vs=[.ref t,.ref p,nV i]∧Tp K a 7 H t∧Lsd K H p (hsD hs)∧hs.length≤4∧hs[i]?=some h∧h.names<h.slots∧h.names≤7∧h.boxed.length≤7∧h.taken.length≤3∧∀ v d H',Stay t H H'→Tp K a 7 H' t→Rep K H' v d→Cod.Ja hs i h d→Q v H'
theorem Wm {H:Hp} {r:Ac} {ms:List Nat} (h:H r=some (.lst (ms.map nV))):Lsd K H r ((ms.map fun m:Nat=>(m:Int)).map .int):=⟨_,h,by
 have:=Reps.ints (K:=K) (H:=H) (ms.map fun m:Nat=>(m:Int));rw [Bm] at this;exact this⟩
theorem qbl {ms:List Nat}:∀ d∈(ms.map fun m:Nat=>(m:Int)).map PyData.int,Cod.Flt d:=fun d hd=>by
 obtain ⟨i,_,rfl⟩:=A3.mp hd;exact Cod.Ya
theorem get3 {ss:List Nat} {h:Cod.Hd} (hl:ss.length=3) (hm:∀ s∈ss,Cod.Mid h s):∃ s0 s1 s2,ss=[s0,s1,s2]∧Cod.Mid h s0∧Cod.Mid h s1∧Cod.Mid h s2:=by
 match ss,hl with
 | [a,b,c],_=>exact ⟨a,b,c,rfl,hm a (by simp),hm b (by simp),hm c (by simp)⟩
theorem qe8 {r:TS} {D:Ends} {σ:St} {H:Hp} {i0 i:Nat} {a t:Ac} {k:Int} (e:σ[i0]?=some (some (.ref t))) (tp:Tp K a 7 H t) (hk:0<k) (h:∀ (z:Int) H',0≤z→z<k→Stay t H H'→Tp K a 7 H' t→r D (σ.set i (some (.int z))) H'):Jn (VM (jA (zH K) [] E0 (qw (qG i0) (qw (tC (.int k)) zu))) (qC i)) r D σ H:=⟨_,e,t,k,a,7,rfl,tp,hk,h⟩
structure Fx (K:Frag) (a t:Ac) (H:Hp) (r2 p3 r4:Ac) (ss:List Nat) (pl:List Aa) (ms:List Nat) (H6:Hp):Prop where
 st:Stay t H H6
 tp:Tp K a 7 H6 t
 hs:H6 r2=some (.lst (ss.map nV))
 lp:Lsd K H6 p3 pl
 hm:H6 r4=some (.lst (ms.map nV))
theorem Fx.same {a t:Ac} {H:Hp} {r2 p3 r4:Ac} {ss:List Nat} {pl:List Aa} {ms:List Nat} {H6 H7:Hp} (x:Fx K a t H r2 p3 r4 ss pl ms H6) (g:qk H6 H7):Fx K a t H r2 p3 r4 ss pl ms H7:=⟨x.st.then g,x.tp.stay g,g _ _ x.hs,x.lp.same g,g _ _ x.hm⟩
theorem Jo {t:Ac} {H H':Hp} {r:Ac} {xs:List V} (g:Stay t H H') (h:H r=some (.lst xs)):H' r=some (.lst xs):=g.rest _ _ (g.ne h fun k z=>by cases z) h
theorem Fx.stay {a t:Ac} {H:Hp} {r2 p3 r4:Ac} {ss:List Nat} {pl:List Aa} {ms:List Nat} {H6 H7:Hp} (x:Fx K a t H r2 p3 r4 ss pl ms H6) (g:Stay t H6 H7) (tp:Tp K a 7 H7 t):Fx K a t H r2 p3 r4 ss pl ms H7:=⟨x.st.trans g,tp,Jo g x.hs,x.lp.stay g,Jo g x.hm⟩
theorem qf8 {i:Int} (h: -1000000000000≤i) (h':i≤1000000000000):Tre.XE i=true:=by
 unfold Tre.XE;rw [Am h,Am h'];rfl
theorem Zw {α β:Type} (f:α→β) (l:List α):(l.map f).isEmpty=l.isEmpty:=by cases l <;> rfl
theorem WO (F:Fun K "_law_row_by" "_law_row_by" jE f fd) (c:Cs K mg ad) (d_law_draw:Def P w K mg base 1 "_law_draw" ["_law_tape_here","_law_many"] (zH K)) (d_law_places:Def P w K mg base 1 "_law_places" ["_law_heads_here","_law_number"] (qcr K)):FnOk P w K mg base CX0 2 f fd ["_law_tape_here","_law_heads_here","_law_number"] (yz K):=by
 refine F.ok zx (fun vs H Q E h=>?_) (fun cdv A outer s H vs Q E hr h=>?_)
 ·obtain ⟨t,p,a,i,hs,h,rfl,_⟩:=h;rfl
 obtain ⟨t,p,a,i,hs,h,rfl,tp,lh,hl4,ehi,hlt,hn7,hb7,ht3,q⟩:=h;have hu64:=vA hr;refine ⟨_,(qf (wY (qZ (WK (K:=K) rfl) (pix K (pv 1) (pv 2)) (qI qc) (qI qc)) (vq (K:=K) (n:=2) rfl rfl (qM (pgn 3 zx.nd) (qM (pgn 4 zx.nd) jr))))
   (qf (Jk (i:=5) zx.nd rfl (by first | exact Or.inl rfl | exact Or.inr rfl) (sc:=qh jE) (NX:=["_law_tape_here","_law_heads_here","_law_number","_law_names","_law_slots","_law_some","_law_places_here","_law_inner","_law_way","_law_place"]) (N:=["_law_k","_law_names","_law_tape_here","_law_slots"]) (js:=[none,some 3,some 0,some 4]) (zi rfl c.range_ (qa qc qb)) (fun _ _ _ _ _=>(qx (i:=0) (show (["_law_k","_law_names","_law_tape_here","_law_slots"]:List Str).Nodup from ∅) rfl (Or.inl rfl))) (fun _ _ _ _ _=>zn) (fun _ _ _ _ _=>(qH zk (pv 1) (pdf d_law_draw (qa (pv 2) (qa (qH yP (pv 3) (pv 1)) qb))))) (qB rfl) ⟨∅,rfl,∅,∅,rfl,∅⟩)
   (qf (pst 6 zx.nd (pdf d_law_places (qa (pv 1) (qa (pv 2) qb))))
   (qf (Jk (i:=7) zx.nd rfl (by first | exact Or.inl rfl | exact Or.inr rfl) (sc:=qh jE) (NX:=["_law_tape_here","_law_heads_here","_law_number","_law_names","_law_slots","_law_some","_law_places_here","_law_inner","_law_way","_law_place"]) (N:=["_law_m","_law_number","_law_heads_here"]) (js:=[none,some 2,some 1]) (zi rfl c.range_ (qa (qt (jN (K:=K) rfl) (by rfl) c.len_ zR (qa (pv 1) qb)) qb)) (fun _ _ _ _ _=>(qx (i:=0) (show (["_law_m","_law_number","_law_heads_here"]:List Str).Nodup from ∅) rfl (Or.inl rfl))) (fun _ _ _ _ _=>(vG (qu ze (pix K (pix K (pv 2) (pv 0)) qc) (pv 1) (qq _)))) (fun _ _ _ _ _=>(pv 0)) (qB rfl) ⟨∅,rfl,∅,∅,rfl,∅⟩)
   (qf (pst 8 zx.nd (pdf d_law_draw (qa (pv 0) (qa qc qb))))
   (qf (qF (PW.pt (VS (qu ze (pv 8) qc (qq _)) (vS (qu (Wl (K:=K) rfl hu64) (pv 7) (qT qb) (qq _))))) (qg (qm (qi (qa qj (qa (pix K (pv 5) qc) (qa (pix K (pv 7) (pdf d_law_draw (qa (pv 0) (qa (qt (jN (K:=K) rfl) (by rfl) c.len_ zR (qa (pv 7) qb)) qb)))) qb)))))) qv)
   (qf (qF (PW.pt (VS (qu wg (pv 8) qc (qq _)) (vS (qu (Wl (K:=K) rfl hu64) (pv 6) (qT qb) (qq _))))) (qf (pst 9 zx.nd (pix K (pv 6) (pdf d_law_draw (qa (pv 0) (qa (qt (jN (K:=K) rfl) (by rfl) c.len_ zR (qa (pv 6) qb)) qb)))))
   (qg (qm (pix K (qT (qa (qi (qa qj (qa (pix K (pv 5) qc) (qa (pv 9) qb)))) (qa (qi (qa qj (qa (pv 9) (qa (pix K (pv 5) qc) qb)))) qb))) (qH We (pv 8) qc))))) qv)
   (qf (qF (qu wg (pv 8) qc (qq _)) (qg (qm (qi (qa qj (qa (pix K (pv 5) qc) (qa (pix K qj (pdf d_law_draw (qa (pv 0) (qa qc qb)))) (qa (pix K (pv 5) qc) (qa (pix K (pv 5) qc) qb)))))))) qv)
   (qg (qm (qi (qa qj (qa (pix K (pv 5) qc) (qa (pix K (qT (qa (qH yP (pdf d_law_draw (qa (pv 0) (qa qc qb))) qc) (qa (qH qay qc qc) (qa (Zf QJ (qH qay qc qc)) qb)))) (pdf d_law_draw (qa (pv 0) (qa qc qb)))) qb)))))))))))))),?_⟩
 clear hu64 hr;obtain ⟨kvs,hkv⟩:=tp.dk;obtain ⟨v,av,rv⟩:=yg lh ehi;refine ⟨_,rfl,_,rfl,av.ix ⟨_,rfl,_,rfl,qhx rv fun c1 hc1=>⟨c1,_,rfl,SqT.of upd_same,rfl,_,_,rfl,_,_,rfl,rfl,?_⟩⟩⟩;have g1:=qe hc1 (.tup [nV h.names,nV h.slots]);have tp1:=tp.stay g1;have lh1:=lh.same g1;generalize upd H c1 (.tup [nV h.names,nV h.slots])=H1 at g1 tp1 lh1 ⊢;refine ⟨3,rfl,O0,O0,Y9 (n:=3) O0 tp1 hlt (fun x=>⟨rfl,rfl,rfl⟩) fun r2 H2 ss hr2 st2 tp2 hs2 el2 mid2=>?_⟩;obtain ⟨s0,s1,s2,rfl,m0,m1,m2⟩:=get3 el2 mid2;have lh2:=lh1.stay st2;obtain ⟨v2,av2,rv2⟩:=yg lh2 ehi;refine ⟨_,rfl,_,rfl,.ref p,i,v2,_,_,_,_,h.names,h.boxed,h.taken,[],rfl,av2,rv2,⋯,⋯,⋯,fun p3 H3 hp3 g3 lp3=>?_⟩;have lh3:=lh2.same g3;refine ⟨_,rfl,_,_,rfl,lh3.len,?_⟩;rw [Aj];refine ⟨_,rfl,⋯,⋯,?_⟩;rw [Bf];refine qeb lh3 hl4 ⟨rfl,rfl⟩ fun r4 H4 ms hr4 g4 hms ml4 hmi=>?_;have tp4:=(tp2.stay g3).stay g4;refine qe8 (k:=7) rfl tp4 O0 fun i5 H5 w0 w1 st5 tp5=>?_;obtain ⟨way,rfl⟩:∃ n:Nat,i5=(n:Nat):=⟨i5.toNat,⋯⟩;have st15:Stay t H1 H5:=(st2.then (g3.trans g4)).trans st5;have stA:Stay t H H5:=(Stay.of hkv g1).trans st15;have hs5:H5 r2=some (.lst [nV s0,nV s1,nV s2]):=st5.rest _ _ (fun z=>by
  obtain ⟨k,hk⟩:=st5.at0;have:=(g3.trans g4) _ _ hs2;rw [z,hk] at this;cases this) ((g3.trans g4) _ _ hs2)
 have lp5:Lsd K H5 p3 h.places:=(lp3.same g4).stay st5;have hms5:H5 r4=some (.lst (ms.map nV)):=st5.rest _ _ (fun z=>by
  obtain ⟨k,hk⟩:=st5.at0;rw [z,hk] at hms;cases hms) hms
 have flp:∀ d∈h.places,Cod.Flt d:=fun d hd=>by
  obtain ⟨w,k,rfl,hw⟩:=Cod.wZ hd;exact Cod.y9 hw
 have x5:Fx K a t H r2 p3 r4 [s0,s1,s2] h.places ms H5:=⟨stA,tp5,hs5,lp5,hms5⟩;clear st2 tp2 hs2 lh2 av2 rv2 hp3 g3 lp3 lh3 hr4 g4 hms tp4 st5 w0 lh1 g1 tp1 st15 av rv stA tp5 hs5 lp5 hms5;have put:∀ {H6:Hp} {c:Ac} {xs:List V} {d:Aa},Fx K a t H r2 p3 r4 [s0,s1,s2] h.places ms H6→H6 c=none→Rep K (upd H6 c (.tup xs)) (.ref c) d→Cod.Ja hs i h d→Q (.ref c) (upd H6 c (.tup xs)):=fun x hc r ok=>q _ _ _ (x.st.then (qe hc _)) (x.tp.stay (qe hc _)) r ok;show Jn _ _ _ [some (.ref t),some (.ref p),some (nV i),some (nV h.names),some (nV h.slots),some (.ref r2),some (.ref p3),some (.ref r4),some (nV way),none] H5;refine jB fun D1 n1 r1=>vx fun B b1 b2=>?_;have next1:∀ H6,Fx K a t H r2 p3 r4 [s0,s1,s2] h.places ms H6→D1.nx [some (.ref t),some (.ref p),some (nV i),some (nV h.names),some (nV h.slots),some (.ref r2),some (.ref p3),some (.ref r4),some (nV way),none] H6:=fun H6 x6=>by
  refine n1 _ _ ?_;refine jB fun D2 n2 r2'=>vx fun B b1 b2=>?_;have next2:∀ H6 o9,Fx K a t H r2 p3 r4 [s0,s1,s2] h.places ms H6→D2.nx [some (.ref t),some (.ref p),some (nV i),some (nV h.names),some (nV h.slots),some (.ref r2),some (.ref p3),some (.ref r4),some (nV way),o9] H6:=fun H6 o9 x6=>by
   refine n2 _ _ ?_;refine jB fun D3 n3 r3=>vx fun B b1 b2=>⟨_,rfl,_,_,rfl,rfl,_,rfl,?_⟩
   by_cases c6:(way:Int)<6
   ·refine bP (Am c6) (b1 _ ?_);refine ⟨_,rfl,ixL x6.hs rfl ⟨_,rfl,t,5,a,7,rfl,x6.tp,O0,fun k H7 k0 k1 st7 tp7=>?_⟩⟩;obtain ⟨cc,hc,hsg⟩:=qct k0 k1;have x7:=x6.stay st7 tp7;refine .inr (.inr ⟨_,_,cc,rfl,rfl,∅,hc,_,rfl,ixL (k:=1) x7.hs rfl ⟨_,rfl,ixL (k:=2) x7.hs rfl ⟨(O0:5≤Af),fun e he=>r3 _ _ (put x7 he (.tup (SqT.of upd_same) (.cons (.str _) (.cons (.int _) (.cons (.str _) (.cons (.int _) (.cons (.int _) .nil)))))) (Cod.qcz m0 m1 m2 hsg))⟩⟩⟩)
   ·refine bN (Ao c6) (b2 _ (n3 _ _ ?_));refine ⟨_,rfl,ixL x6.hs rfl ?_⟩;refine ⟨_,rfl,t,9,a,7,rfl,x6.tp,O0,fun k H7 k0 k1 st7 tp7=>⟨_,_,rfl,rfl,?_⟩⟩;have x7:=x6.stay st7 tp7;have e12:(10:Int) ^ Int.toNat 12=1000000000000:=∅;have cp:qhf 10 12:=⟨O0,O0,O0⟩;refine ⟨_,_,rfl,rfl,cp,_,_,rfl,rfl,cp,_,rfl,(O0:3≤Af),fun r8 hr8=>⟨_,rfl,t,3,a,7,rfl,x7.tp.stay (qe hr8 _),O0,fun k9 H9 j0 j1 st9 tp9=>?_⟩⟩;obtain ⟨v,hv,z,rfl,hz⟩:=vZ (xs:=[V.int (k - 4),V.int (10 ^ Int.toNat 12),V.int (-(10 ^ Int.toNat 12))]) (i:=k9) (p:=fun v=>∃ z:Int,v= .int z∧Tre.XE z=true) (by
     simp only [Av,A7,or_false];rintro x (rfl | rfl | rfl)
     ·exact ⟨_,rfl,qf8 ⋯ ⋯⟩
     ·exact ⟨_,rfl,by rw [e12];decide⟩
     ·exact ⟨_,rfl,by rw [e12];decide⟩) j0 j1
    have x9:=(x7.same (qe hr8 (.lst [V.int (k - 4),V.int (10 ^ Int.toNat 12),V.int (-(10 ^ Int.toNat 12))]))).stay st9 tp9;refine .inl ⟨r8,_,k9,_,rfl,rfl,st9.sqL (SqL.of upd_same),hv,(O0:3≤Af),fun e he=>put x9 he (.tup (SqT.of upd_same) (.cons (.str _) (.cons (.int _) (.cons (.int _) .nil)))) (Cod.wX m0 hz)⟩
  refine ⟨_,rfl,_,_,rfl,rfl,_,rfl,?_⟩
  by_cases c4:(way:Int)<4
  ·refine jx (Am c4) (Wk rfl x6.lp flp fun H7 g7=>⟨_,rfl,?_⟩);have x7:=x6.same g7;cases hpl:h.places with
   | nil=>exact b2 _ (next2 _ _ x7)
   | cons pl0 plr=>
    refine b1 _ ?_;have hpos:0<h.places.length:=by rw [hpl];exact Nat.succ_pos _
    refine ⟨_,rfl,_,rfl,_,rfl,_,_,rfl,x7.lp.len,t,_,a,7,rfl,x7.tp,⋯,fun k H8 k0 k1 st8 tp8=>?_⟩;have x8:=x7.stay st8 tp8;refine x8.lp.at k0 k1 fun v d hd rv=>?_;refine ⟨_,rfl,ixL x8.hs rfl ⟨_,rfl,(O0:3≤Af),fun e1 he1=>?_⟩⟩;have g9:=qe he1 (.tup [.str "read",nV s0,v]);have x9:=x8.same g9;have rv9:=rv.same g9;have re1:Rep K (upd H8 e1 (.tup [.str "read",nV s0,v])) (.ref e1) (.tuple [.str "read",.int (s0:Nat),d]):= .tup (SqT.of upd_same) (.cons (.str _) (.cons (.int _) (.cons rv9 .nil)));generalize upd H8 e1 (.tup [.str "read",nV s0,v])=H9 at x9 rv9 re1 ⊢;refine ⟨_,rfl,_,rfl,ixL x9.hs rfl ⟨(O0:3≤Af),fun e2 he2=>?_⟩⟩;have g10:=qe he2 (.tup [.str "write",v,nV s0]);have x10:=x9.same g10;have re2:Rep K (upd H9 e2 (.tup [.str "write",v,nV s0])) (.ref e2) (.tuple [.str "write",d,.int (s0:Nat)]):= .tup (SqT.of upd_same) (.cons (.str _) (.cons (rv9.same g10) (.cons (.int _) .nil)));have re1':=re1.same g10;generalize upd H9 e2 (.tup [.str "write",v,nV s0])=H10 at x10 re1' re2 ⊢;refine ⟨(O0:2≤Af),fun e3 he3=>?_⟩;have g11:=qe he3 (.lst [.ref e1,.ref e2]);have x11:=x10.same g11;have l11:Lsd K (upd H10 e3 (.lst [.ref e1,.ref e2])) e3 [.tuple [.str "read",.int (s0:Nat),d],.tuple [.str "write",d,.int (s0:Nat)]]:=⟨_,upd_same,.cons (re1'.same g11) (.cons (re2.same g11) .nil)⟩;generalize upd H10 e3 (.lst [.ref e1,.ref e2])=H11 at x11 l11 ⊢;refine ⟨_,rfl,_,_,rfl,rfl,(show (0:Int)<2 from O0),l11.at (Int.emod_nonneg _ O0) (Ek _ O0) fun v2 d2 hd2 rv2=>?_⟩;refine r2' _ _ (q _ _ _ x11.st x11.tp rv2 ?_);simp only [Av,A7,or_false] at hd2;rcases hd2 with rfl | rfl
    ·exact Cod.qaa m0 hd
    ·exact Cod.Z6 m0 hd
  ·exact jo (Ao c4) (b2 _ (next2 _ _ x6))
 refine ⟨_,rfl,rfl,_,rfl,?_⟩
 by_cases c0:way=0
 ·refine jx (show decide _=true from Am (by rw [c0];rfl)) (Wk rfl (Wm x5.hm) qbl fun H7 g7=>⟨_,rfl,?_⟩)
  have x7:=x5.same g7;rw [Zw,Zw];cases ms with
  | nil=>exact b2 _ (next1 _ x7)
  | cons m0' mr=>
   refine b1 _ ?_;have lm:=Wm (K:=K) x7.hm;refine ⟨_,rfl,ixL x7.hs rfl ⟨_,rfl,_,rfl,_,rfl,_,_,rfl,lm.len,t,_,a,7,rfl,x7.tp,?_,fun k H8 k0 k1 st8 tp8=>?_⟩⟩
   ·rw [Aj,Aj,Bj];omega
   have x8:=x7.stay st8 tp8;refine (Wm (K:=K) x8.hm).at k0 k1 fun v d hd rv=>?_;obtain ⟨y,hy,rfl⟩:=A3.mp hd;obtain ⟨mm,hmm,rfl⟩:=A3.mp hy;cases rv;obtain ⟨hj,ehj,eo⟩:=hmi mm hmm;exact ⟨(O0:3≤Af),fun e he=>r1 _ _ (put x8 he (.tup (SqT.of upd_same) (.cons (.str _) (.cons (.int _) (.cons (.int _) .nil)))) (Cod.qab m0 ehj eo))⟩
 ·exact jo (show decide _=false from Ao fun z=>c0 (by have:=V.int.inj z;omega)) (b2 _ (next1 _ x5))
theorem qd8 {js:List (Option Nat)} {σ:St} {H:Hp} {Q:VK} {a t:Ac} {n many:Nat} (hn:n≤9) (tp:Tp K a 7 H t) (hm:0<many)
  (hσ:∀ x,((zm js σ).set 0 x)[1]?=some (some (.ref t))∧((zm js σ).set 0 x)[2]?=some (some (nV many)))
  (q:∀ r H' (ss:List Nat),H r=none→Stay t H H'→Tp K a 7 H' t→H' r=some (.lst (ss.map nV))→ss.length=n→(∀ s∈ss,s<many)→Q (.ref r) H'):
  zK (Itr 0 n) js (qC 0) Jw (jA (zH K) [] E0 (qw (qG 1) (qw (qG 2) zu))) σ H Q:=by
 obtain ⟨kvs,hkv⟩:=tp.dk;refine zd n (fun i ys H'=>Stay t H H'∧Tp K a 7 H' t∧∃ ss:List Nat,ys=ss.map nV∧ss.length=i∧∀ s∈ss,s<many) ⟨Stay.of hkv (qk.refl _),tp,[],rfl,rfl,fun _ h=>(nomatch h)⟩ (fun i ys H' h=>?_) (As (show n≤100 from ⋯) O0) (fun i ys H' hi h'=>?_) (fun ys H' h=>?_)
 ·obtain ⟨_,_,ss,rfl,rfl,_⟩:=h;rw [Aj];exact An _
 ·obtain ⟨st,tp1,ss,rfl,rfl,hs⟩:=h';refine ⟨hi,fun x H2 yl=>?_⟩;obtain ⟨rfl,rfl⟩:=yl;obtain ⟨e1,e2⟩:=hσ (some (.int (0+(ss.length:Nat))));refine ⟨_,e1,_,e2,t,_,a,7,rfl,tp1,⋯,fun k H3 k0 k1 st3 tp3=>?_⟩;obtain ⟨k,rfl⟩:∃ n:Nat,k=(n:Nat):=⟨k.toNat,⋯⟩;refine ⟨st.trans st3,tp3,ss++[k],by rw [A6];rfl,by rw [Ax];rfl,fun s hs'=>?_⟩
  rcases Az.mp hs' with z | z
  ·exact hs s z
  ·rw [Ay.mp z];omega
 ·obtain ⟨st,tp1,ss,rfl,el,hs⟩:=h;exact ⟨An _,fun D hD=>q D _ ss (st.free hD) (st.then (qe hD _)) (tp1.stay (qe hD _)) upd_same el hs⟩
theorem get2 {ss:List Nat} {p:Nat→Prop} (hl:ss.length=2) (hm:∀ s∈ss,p s):∃ s0 s1,ss=[s0,s1]∧p s0∧p s1:=by
 match ss,hl with
 | [a,b],_=>exact ⟨a,b,rfl,hm a (by simp),hm b (by simp)⟩
theorem get6 {ss:List Nat} {p:Nat→Prop} (hl:ss.length=6) (hm:∀ s∈ss,p s):∃ s0 s1 s2 s3 s4 s5,ss=[s0,s1,s2,s3,s4,s5]∧p s0∧p s1:=by
 match ss,hl with
 | [a,b,c,d,e,f],_=>exact ⟨a,b,c,d,e,f,rfl,hm a (by simp),hm b (by simp)⟩
structure Fe (K:Frag) (a t:Ac) (H:Hp) (p r1:Ac) (hs:List Cod.Hd) (ns:List Nat) (H6:Hp):Prop where
 st:Stay t H H6
 tp:Tp K a 7 H6 t
 lh:Lsd K H6 p (hsD hs)
 hn:H6 r1=some (.lst (ns.map nV))
theorem Fe.same {a t:Ac} {H:Hp} {p r1:Ac} {hs:List Cod.Hd} {ns:List Nat} {H6 H7:Hp} (x:Fe K a t H p r1 hs ns H6) (g:qk H6 H7):Fe K a t H p r1 hs ns H7:=⟨x.st.then g,x.tp.stay g,x.lh.same g,g _ _ x.hn⟩
theorem Fe.stay {a t:Ac} {H:Hp} {p r1:Ac} {hs:List Cod.Hd} {ns:List Nat} {H6 H7:Hp} (x:Fe K a t H p r1 hs ns H6) (g:Stay t H6 H7) (tp:Tp K a 7 H7 t):Fe K a t H p r1 hs ns H7:=⟨x.st.trans g,tp,x.lh.stay g,Jo g x.hn⟩
def Zb (K:Frag):Sp:=fun vs H Q _=>∃ t p a i many hs h,vs=[.ref t,.ref p,nV i,nV many]∧Tp K a 7 H t∧Lsd K H p (hsD hs)∧hs.length≤4∧hs[i]?=some h∧0<many∧h.names≤h.slots∧∀ v d H',Stay t H H'→Tp K a 7 H' t→Rep K H' v d→Cod.Ju hs i h many d→Q v H'
theorem cut2 (s0 s1 s2 s3 s4 s5:Nat):∀ k:Nat,k<5→JX ([s0,s1,s2,s3,s4,s5].map nV) (some 2) (some ((2:Int)+(k:Nat)))=(([s0,s1,s2,s3,s4,s5].drop 2).take k).map nV
 | 0,_=>rfl
 | 1,_=>rfl
 | 2,_=>rfl
 | 3,_=>rfl
 | 4,_=>rfl
theorem WQ (F:Fun K "_law_end_by" "_law_end_by" jF f fd) (c:Cs K mg ad) (d_law_draw:Def P w K mg base 1 "_law_draw" ["_law_tape_here","_law_many"] (zH K)):FnOk P w K mg base CX0 2 f fd ["_law_tape_here","_law_heads_here","_law_number","_law_many"] (Zb K):=by
 refine F.ok zQ (fun vs H Q E h=>?_) (fun cdv A outer s H vs Q E hr h=>?_)
 ·obtain ⟨t,p,a,i,many,hs,h,rfl,_⟩:=h;rfl
 obtain ⟨t,p,a,i,many,hs,h,rfl,tp,lh,hl4,ehi,hmany,hle,q⟩:=h;refine ⟨_,(qf (wY (qZ (WK (K:=K) rfl) (pix K (pv 1) (pv 2)) (qI qc) (qI qc)) (vq (K:=K) (n:=2) rfl rfl (qM (pgn 4 zQ.nd) (qM (pgn 5 zQ.nd) jr))))
   (qf (Jk (i:=6) zQ.nd rfl (by first | exact Or.inl rfl | exact Or.inr rfl) (sc:=qh jF) (NX:=["_law_tape_here","_law_heads_here","_law_number","_law_many","_law_names","_law_slots","_law_at","_law_way","_law_some"]) (N:=["_law_k","_law_tape_here","_law_many"]) (js:=[none,some 0,some 3]) (zi rfl c.range_ (qa qc qb)) (fun _ _ _ _ _=>(qx (i:=0) (show (["_law_k","_law_tape_here","_law_many"]:List Str).Nodup from ∅) rfl (Or.inl rfl))) (fun _ _ _ _ _=>zn) (fun _ _ _ _ _=>(pdf d_law_draw (qa (pv 1) (qa (pv 2) qb)))) (qB rfl) ⟨∅,rfl,∅,∅,rfl,∅⟩)
   (qf (pst 7 zQ.nd (pdf d_law_draw (qa (pv 0) (qa qc qb))))
   (qf (qF (qu ze (pv 5) (pv 4) (qq _)) (qg (qm (pix K (qT (qa (qi (qa qj (qa (pix K (pv 6) qc) qb))) (qa (qi (qa qj (qa (pix K (pv 6) qc) qb))) (qa (qi (qa qj (qa J8 qb))) qb)))) (qH We (pv 7) qc)))) qv)
   (qf (Jk (i:=8) zQ.nd rfl (by first | exact Or.inl rfl | exact Or.inr rfl) (sc:=qh jF) (NX:=["_law_tape_here","_law_heads_here","_law_number","_law_many","_law_names","_law_slots","_law_at","_law_way","_law_some"]) (N:=["_law_k","_law_names","_law_tape_here","_law_slots"]) (js:=[none,some 4,some 0,some 5]) (zi rfl c.range_ (qa qc qb)) (fun _ _ _ _ _=>(qx (i:=0) (show (["_law_k","_law_names","_law_tape_here","_law_slots"]:List Str).Nodup from ∅) rfl (Or.inl rfl))) (fun _ _ _ _ _=>zn) (fun _ _ _ _ _=>(qH zk (pv 1) (pdf d_law_draw (qa (pv 2) (qa (qH yP (pv 3) (pv 1)) qb))))) (qB rfl) ⟨∅,rfl,∅,∅,rfl,∅⟩)
   (qf (qF (qu wg (pv 7) qc (qq _)) (qg (qm (pix K (qT (qa (qi (qa qj (qa (pix K (pv 6) qc) qb))) (qa (qi (qa qj (qa (pix K (pv 6) qc) qb))) qb))) (pv 7)))) qv)
   (qf (qF (qu ze (pv 7) qc (qq _)) (qg (qm (qi (qa qj (qa (pix K (pv 8) qc) (qa (pix K (pv 6) qc) (qa (pix K (pv 6) qc) qb))))))) qv)
   (qf (qF (qu wg (pv 7) qc (qq _)) (qg (qm (qi (qa qj (qa (pix K (pv 8) qc) (qa (pix K (pv 8) qc) (qa (zr (Jy (K:=K) rfl) (by rfl) c.tuple_ zO (qa (qZ (WK (K:=K) rfl) (pv 8) (qI qc) (qI (qH zk qc (pdf d_law_draw (qa (pv 0) (qa qc qb)))))) qb)) (qa (pix K (pv 6) qc) qb)))))))) qv)
   (qf (qF (qu wg (pv 7) qc (qq _)) (qg (qm (qi (qa qj (qa (pix K (pv 8) qc) (qa (pix K (pv 8) qc) (qa (pix K (pv 6) qc) (qa (pix K (pv 6) qc) qb)))))))) qv)
   (qf (qF (PW.pt (VS (qu ze (pv 7) qc (qq _)) (vS (qu VA (pix K (pix K (pv 1) (pv 2)) qc) qj (qq _))))) (qg (qm (qi (qa qj (qa (pix K (pv 8) qc) (qa (pix K (pv 6) qc) qb)))))) qv)
   (qf (qF (qu ze (pv 7) qc (qq _)) (qg (qm (qi (qa qj (qa (pix K (qT (qa qj (qa qj (qa qj qb)))) (pdf d_law_draw (qa (pv 0) (qa qc qb)))) (qa (pix K (pv 8) qc) qb)))))) qv)
   (qg (qm (qi (qa qj (qa (pix K (qT (qa (pix K (pv 8) qc) (qa J8 qb))) (pdf d_law_draw (qa (pv 0) (qa qc qb)))) qb)))))))))))))))),?_⟩
 obtain ⟨kvs,hkv⟩:=tp.dk;obtain ⟨v,av,rv⟩:=yg lh ehi;refine ⟨_,rfl,_,rfl,av.ix ⟨_,rfl,_,rfl,qhx rv fun c1 hc1=>⟨c1,_,rfl,SqT.of upd_same,rfl,_,_,rfl,_,_,rfl,rfl,?_⟩⟩⟩;have g1:=qe hc1 (.tup [nV h.names,nV h.slots]);have tp1:=tp.stay g1;have lh1:=lh.same g1;generalize upd H c1 (.tup [nV h.names,nV h.slots])=H1 at g1 tp1 lh1 ⊢;refine ⟨2,rfl,O0,O0,qd8 (n:=2) (many:=many) O0 tp1 hmany (fun x=>⟨rfl,rfl⟩) fun r1 H2 ns hr1 st2 tp2 hn2 el2 lt2=>?_⟩;obtain ⟨n0,n1,rfl,ln0,ln1⟩:=get2 (p:=fun s=>s<many) el2 lt2;refine qe8 (k:=10) rfl tp2 O0 fun i5 H5 w0 w1 st5 tp5=>?_;obtain ⟨way,rfl⟩:∃ n:Nat,i5=(n:Nat):=⟨i5.toNat,⋯⟩;have x5:Fe K a t H p r1 hs [n0,n1] H5:=⟨(Stay.of hkv g1).trans (st2.trans st5),tp5,(lh1.stay st2).stay st5,Jo st5 hn2⟩;clear st2 tp2 hn2 el2 lt2 st5 tp5 w0 g1 tp1 lh1 rv av hr1;have pick:∀ {H6:Hp} {e:Ac} {ds:List Aa} {k:Int},Fe K a t H p r1 hs [n0,n1] H6→Lsd K H6 e ds→(∀ d∈ds,Cod.Ju hs i h many d)→0≤k→k<(ds.length:Int)→rIx K (.ref e) (.int k) H6 Q:=fun x l ok k0 k1=>l.at k0 k1 fun v d hd rv=>q _ _ _ x.st x.tp rv (ok d hd);have put:∀ {H6:Hp} {c:Ac} {xs:List V} {d:Aa},Fe K a t H p r1 hs [n0,n1] H6→H6 c=none→Rep K (upd H6 c (.tup xs)) (.ref c) d→Cod.Ju hs i h many d→Q (.ref c) (upd H6 c (.tup xs)):=fun x hc r ok=>q _ _ _ (x.st.then (qe hc _)) (x.tp.stay (qe hc _)) r ok;have two:∀ {H6:Hp} {R:VK},Fe K a t H p r1 hs [n0,n1] H6→(∀ e1 e2 H7,Fe K a t H p r1 hs [n0,n1] H7→Rep K H7 (.ref e1) (.tuple [.str "go",.int (n0:Nat)])→Rep K H7 (.ref e2) (.tuple [.str "while",.int (n0:Nat)])→R (.ref e1) H7)→True:=fun _ _=>trivial;clear two;refine ⟨_,rfl,_,rfl,rfl,_,rfl,?_⟩
 by_cases hsn:h.slots=h.names
 ·refine jx (show decide _=true from Am (by rw [hsn])) ?_
  refine ⟨_,rfl,ixL x5.hn rfl ⟨(O0:2≤Af),fun e1 he1=>?_⟩⟩;have x6:=x5.same (qe he1 (.tup [.str "go",nV n0]));have q1:Rep K (upd H5 e1 (.tup [.str "go",nV n0])) (.ref e1) (.tuple [.str "go",.int (n0:Nat)]):= .tup (SqT.of upd_same) (.cons (.str _) (.cons (.int _) .nil));generalize upd H5 e1 (.tup [.str "go",nV n0])=H6 at x6 q1 ⊢;refine ⟨_,rfl,ixL x6.hn rfl ⟨(O0:2≤Af),fun e2 he2=>?_⟩⟩;have g7:=qe he2 (.tup [.str "while",nV n0]);have x7:=x6.same g7;have q2:Rep K (upd H6 e2 (.tup [.str "while",nV n0])) (.ref e2) (.tuple [.str "while",.int (n0:Nat)]):= .tup (SqT.of upd_same) (.cons (.str _) (.cons (.int _) .nil));have q1':=q1.same g7;generalize upd H6 e2 (.tup [.str "while",nV n0])=H7 at x7 q1' q2 ⊢;refine ⟨(O0:2≤Af),fun e3 he3=>?_⟩;have g8:=qe he3 (.tup [.str "back",.non]);have x8:=x7.same g8;have q3:Rep K (upd H7 e3 (.tup [.str "back",.non])) (.ref e3) (.tuple [.str "back",.none]):= .tup (SqT.of upd_same) (.cons (.str _) (.cons .non .nil));have q1'':=q1'.same g8;have q2':=q2.same g8;generalize upd H7 e3 (.tup [.str "back",.non])=H8 at x8 q1'' q2' q3 ⊢;refine ⟨(O0:3≤Af),fun e4 he4=>?_⟩;have g9:=qe he4 (.lst [.ref e1,.ref e2,.ref e3]);refine ⟨_,rfl,_,_,rfl,rfl,(show (0:Int)<3 from O0),pick (ds:=[.tuple [.str "go",.int (n0:Nat)],.tuple [.str "while",.int (n0:Nat)],.tuple [.str "back",.none]]) (x8.same g9) ⟨_,upd_same,.cons (q1''.same g9) (.cons (q2'.same g9) (.cons (q3.same g9) .nil))⟩ (fun d hd=>?_) (Int.emod_nonneg _ O0) (Ek _ O0)⟩;simp only [Av,A7,or_false] at hd;rcases hd with rfl | rfl | rfl
  ·exact Cod.Yc (.inl rfl) ln0
  ·exact Cod.Yc (.inr rfl) ln0
  ·exact Cod.end_none
 refine jo (show decide _=false from Ao fun z=>hsn (by have:=V.int.inj z;omega)) ?_
 have hlt:h.names<h.slots:=⋯;refine ⟨6,rfl,O0,O0,Y9 (n:=6) O0 x5.tp hlt (fun x=>⟨rfl,rfl,rfl⟩) fun r2 H6 ss hr2 st6 tp6 hs6 el6 mid6=>?_⟩;have x6:=x5.stay st6 tp6;have mall:=mid6;obtain ⟨s0,s1,s2,s3,s4,s5,rfl,m0,m1⟩:=get6 (p:=Cod.Mid h) el6 mid6;clear x5 st6 tp6 el6;have st8:∀ {H7:Hp},Stay t H6 H7→H7 r2=some (.lst ([s0,s1,s2,s3,s4,s5].map nV)):=fun g=>Jo g hs6;refine ⟨_,rfl,_,_,rfl,rfl,_,rfl,?_⟩
 by_cases c2:(way:Int)<2
 ·refine jx (Am c2) ?_;refine ⟨_,rfl,ixL x6.hn rfl ⟨(O0:2≤Af),fun e1 he1=>?_⟩⟩;have x7:=x6.same (qe he1 (.tup [.str "go",nV n0]));have q1:Rep K (upd H6 e1 (.tup [.str "go",nV n0])) (.ref e1) (.tuple [.str "go",.int (n0:Nat)]):= .tup (SqT.of upd_same) (.cons (.str _) (.cons (.int _) .nil));generalize upd H6 e1 (.tup [.str "go",nV n0])=H7 at x7 q1 ⊢;refine ⟨_,rfl,ixL x7.hn rfl ⟨(O0:2≤Af),fun e2 he2=>?_⟩⟩;have g8:=qe he2 (.tup [.str "while",nV n0]);have x8:=x7.same g8;have q2:Rep K (upd H7 e2 (.tup [.str "while",nV n0])) (.ref e2) (.tuple [.str "while",.int (n0:Nat)]):= .tup (SqT.of upd_same) (.cons (.str _) (.cons (.int _) .nil));have q1':=q1.same g8;generalize upd H7 e2 (.tup [.str "while",nV n0])=H8 at x8 q1' q2 ⊢;refine ⟨(O0:2≤Af),fun e4 he4=>?_⟩;have g9:=qe he4 (.lst [.ref e1,.ref e2]);refine ⟨_,rfl,pick (ds:=[.tuple [.str "go",.int (n0:Nat)],.tuple [.str "while",.int (n0:Nat)]]) (x8.same g9) ⟨_,upd_same,.cons (q1'.same g9) (.cons (q2.same g9) .nil)⟩ (fun d hd=>?_) ⋯ c2⟩;simp only [Av,A7,or_false] at hd;rcases hd with rfl | rfl
  ·exact Cod.Yc (.inl rfl) ln0
  ·exact Cod.Yc (.inr rfl) ln0
 refine jo (Ao c2) ⟨_,rfl,rfl,_,rfl,?_⟩
 by_cases c3:way=2
 ·refine jx (show decide _=true from Am (by rw [c3];rfl)) ?_
  exact ⟨_,rfl,ixL hs6 rfl ⟨_,rfl,ixL x6.hn rfl ⟨_,rfl,ixL (k:=1) x6.hn rfl ⟨(O0:4≤Af),fun e he=>put x6 he (.tup (SqT.of upd_same) (.cons (.str _) (.cons (.int _) (.cons (.int _) (.cons (.int _) .nil))))) (Cod.qgu m0 ln0 ln1)⟩⟩⟩⟩
 refine jo (show decide _=false from Ao fun z=>c3 (by have:=V.int.inj z;omega)) ⟨_,rfl,_,_,rfl,rfl,_,rfl,?_⟩
 by_cases c5:(way:Int)<5
 ·refine jx (Am c5) ?_;refine ⟨_,rfl,ixL hs6 rfl ⟨_,rfl,ixL (k:=1) hs6 rfl ⟨_,rfl,_,rfl,_,rfl,t,5,a,7,rfl,x6.tp,O0,fun k H7 k0 k1 st7 tp7=>?_⟩⟩⟩;obtain ⟨k,rfl⟩:∃ n:Nat,k=(n:Nat):=⟨k.toNat,⋯⟩;have x7:=x6.stay st7 tp7;refine .inl ⟨_,_,rfl,rfl,_,rfl,.inl ⟨r2,_,rfl,SqL.of (Jo st7 hs6),fun e1 he1=>?_⟩⟩;rw [cut2 _ _ _ _ _ _ k ⋯];have g8:=qe he1 (.lst ((([s0,s1,s2,s3,s4,s5].drop 2).take k).map nV));have x8:=x7.same g8;refine ⟨e1,_,rfl,.inl ⟨SqL.of upd_same,fun e2 he2=>?_⟩⟩;have g9:=qe he2 (.tup ((([s0,s1,s2,s3,s4,s5].drop 2).take k).map nV));have x9:=x8.same g9;have q2:Rep K (upd (upd H7 e1 (.lst ((([s0,s1,s2,s3,s4,s5].drop 2).take k).map nV))) e2 (.tup ((([s0,s1,s2,s3,s4,s5].drop 2).take k).map nV))) (.ref e2) (.tuple (((([s0,s1,s2,s3,s4,s5].drop 2).take k).map fun j:Nat=>(j:Int)).map .int)):= .tup (SqT.of upd_same) (by
   have:=Reps.ints (K:=K) (H:=upd (upd H7 e1 (.lst ((([s0,s1,s2,s3,s4,s5].drop 2).take k).map nV))) e2 (.tup ((([s0,s1,s2,s3,s4,s5].drop 2).take k).map nV))) ((([s0,s1,s2,s3,s4,s5].drop 2).take k).map fun j:Nat=>(j:Int));rw [Bm] at this;exact this)
  generalize upd (upd H7 e1 (.lst ((([s0,s1,s2,s3,s4,s5].drop 2).take k).map nV))) e2 (.tup ((([s0,s1,s2,s3,s4,s5].drop 2).take k).map nV))=H9 at x9 q2 ⊢;refine ⟨_,rfl,ixL x9.hn rfl ⟨(O0:5≤Af),fun e he=>put x9 he (.tup (SqT.of upd_same) (.cons (.str _) (.cons (.int _) (.cons (.int _) (.cons (q2.same (qe he _)) (.cons (.int _) .nil)))))) (Cod.qbr m0 m1 (fun x hx=>mall x (List.mem_of_mem_drop (List.mem_of_mem_take hx))) ?_ ln0)⟩⟩;exact As (Bw _ _) ⋯
 refine jo (Ao c5) ⟨_,rfl,_,_,rfl,rfl,_,rfl,?_⟩
 by_cases c7:(way:Int)<7
 ·refine jx (Am c7) ?_;exact ⟨_,rfl,ixL hs6 rfl ⟨_,rfl,ixL (k:=1) hs6 rfl ⟨_,rfl,ixL x6.hn rfl ⟨_,rfl,ixL (k:=1) x6.hn rfl ⟨(O0:5≤Af),fun e he=>put x6 he (.tup (SqT.of upd_same) (.cons (.str _) (.cons (.int _) (.cons (.int _) (.cons (.int _) (.cons (.int _) .nil)))))) (Cod.qbp m0 m1 ln0 ln1)⟩⟩⟩⟩⟩
 refine jo (Ao c7) ⟨_,rfl,rfl,_,rfl,?_⟩;have last:(Jn (qff (Vq (tOp rEq (qG 7) (tC (.int 8)))) (Xk (VL (qw (tC (.str "fault")) (qw (tOp (rIx K) (v0 (qw (tC (.str "kind")) (qw (tC (.str "a")) (qw (tC (.str "abcdefgh")) zu)))) (jA (zH K) [] E0 (qw (qG 0) (qw (tC (.int 3)) zu)))) (qw (tOp (rIx K) (qG 8) (tC (.int 0))) zu))))) qeq) (Xk (VL (qw (tC (.str "back")) (qw (tOp (rIx K) (v0 (qw (tOp (rIx K) (qG 8) (tC (.int 0))) (qw (tC .non) zu))) (jA (zH K) [] E0 (qw (qG 0) (qw (tC (.int 2)) zu)))) zu))))) {nx:=fun x H'=>Q V.non H',rt:=Q} [some (.ref t),some (.ref p),some (nV i),some (nV many),some (nV h.names),some (nV h.slots),some (.ref r1),some (nV way),some (.ref r2)] H6:=by
  refine ⟨_,rfl,rfl,_,rfl,?_⟩
  by_cases c8:way=8
  ·refine jx (show decide _=true from Am (by rw [c8];rfl)) ?_
   refine ⟨(O0:3≤Af),fun e1 he1=>⟨_,rfl,t,3,a,7,rfl,x6.tp.stay (qe he1 _),O0,fun k H7 k0 k1 st7 tp7=>?_⟩⟩;have g7:=qe he1 (.lst [V.str "kind",V.str "a",V.str "abcdefgh"]);obtain ⟨v,hv,z,rfl,hz1,hz2⟩:=vZ (xs:=[V.str "kind",V.str "a",V.str "abcdefgh"]) (i:=k) (p:=fun v=>∃ z:Str,v= .str z∧Tre.JH z=true∧(z=="any")=false) (by
    simp only [Av,A7,or_false];rintro x (rfl | rfl | rfl) <;> exact ⟨_,rfl,∅,∅⟩) k0 k1
   have x7:=(x6.same g7).stay st7 tp7;refine .inl ⟨e1,_,k,_,rfl,rfl,st7.sqL (SqL.of upd_same),hv,_,rfl,ixL (Jo st7 (g7 _ _ hs6)) rfl ⟨(O0:3≤Af),fun e he=>put x7 he (.tup (SqT.of upd_same) (.cons (.str _) (.cons (.str _) (.cons (.int _) .nil)))) (Cod.Qw m0 hz1 hz2)⟩⟩
  ·refine jo (show decide _=false from Ao fun z=>c8 (by have:=V.int.inj z;omega)) ?_
   refine ⟨_,rfl,ixL hs6 rfl ⟨(O0:2≤Af),fun e1 he1=>⟨_,rfl,t,2,a,7,rfl,x6.tp.stay (qe he1 _),O0,fun k H7 k0 k1 st7 tp7=>?_⟩⟩⟩;have g7:=qe he1 (.lst [nV s0,V.non]);have x7:=(x6.same g7).stay st7 tp7;obtain ⟨v,hv,d,rd,hd⟩:=vZ (xs:=[nV s0,V.non]) (i:=k) (p:=fun v=>∃ d,(∀ H,Rep K H v d)∧Cod.Ju hs i h many (.tuple [.str "back",d])) (by
    simp only [Av,A7,or_false];rintro x (rfl | rfl)
    ·exact ⟨_,fun H=> .int _,Cod.qbs m0⟩
    ·exact ⟨_,fun H=> .non,Cod.end_none⟩) k0 k1
   exact .inl ⟨e1,_,k,_,rfl,rfl,st7.sqL (SqL.of upd_same),hv,(O0:2≤Af),fun e he=>put x7 he (.tup (SqT.of upd_same) (.cons (.str _) (.cons (rd _) .nil))) hd⟩
 by_cases c77:way=7
 ·refine jx (show decide _=true from Am (by rw [c77];rfl)) ?_
  obtain ⟨v,av,rv⟩:=yg x6.lh ehi;refine ⟨_,rfl,_,rfl,av.ix (ixr (i:=0) rv rfl fun u ru=>?_)⟩;cases ru;refine ⟨rfl,_,rfl,?_⟩;rw [v7];refine qN (fun hk=>?_) fun hk=>last;exact ⟨_,rfl,ixL hs6 rfl ⟨_,rfl,ixL x6.hn rfl ⟨(O0:3≤Af),fun e he=>put x6 he (.tup (SqT.of upd_same) (.cons (.str _) (.cons (.int _) (.cons (.int _) .nil)))) (Cod.qbq m0 ln0 fun z=>by rw [z] at hk;exact absurd hk ∅)⟩⟩⟩
 ·exact jo (show decide _=false from Ao fun z=>c77 (by have:=V.int.inj z;omega)) last
structure FL (K:Frag) (a t:Ac) (H:Hp) (L:List (Ac×List Aa)) (H':Hp):Prop where
 rest:∀ v o,v≠t→H v=some o→H' v=some o
 tp:Tp K a 7 H' t
 ls:∀ x∈L,Lsd K H' x.1 x.2∧Cod.zB x.2=true
 ap:∀ x∈L,Apt K a x.1∧H x.1=none
 nd:(L.map (·.1)).Nodup
section
variable {a t q:Ac} {H H' H2:Hp} {L:List (Ac×List Aa)} {ds:List Aa} {x:Ac×List Aa}
theorem FL.same (h:FL K a t H L H') (g:qk H' H2):FL K a t H L H2:=⟨fun v o n e=>g _ _ (h.rest v o n e),h.tp.stay g,fun x hx=>⟨(h.ls x hx).1.same g,(h.ls x hx).2⟩,h.ap,h.nd⟩
theorem FL.stay (h:FL K a t H L H') (g:Stay t H' H2) (tp:Tp K a 7 H2 t):FL K a t H L H2:=⟨fun v o n e=>g.rest v o n (h.rest v o n e),tp,fun x hx=>⟨(h.ls x hx).1.stay g,(h.ls x hx).2⟩,h.ap,h.nd⟩
theorem FL.drop (h:FL K a t H (x::L) H'):FL K a t H L H':=⟨h.rest,h.tp,fun y hy=>h.ls y (Bg _ hy),fun y hy=>h.ap y (Bg _ hy),(Ck.mp h.nd).2⟩
theorem FL.under (h:FL K a t H L H') (hq:H' q=none):H q=none:=by
 cases e:H q with
 | none=>rfl
 | some o=>
  by_cases z:q=t
  ·obtain ⟨kvs,hk⟩:=h.tp.dk;rw [z,hk] at hq;cases hq
  ·rw [h.rest q o z e] at hq;cases hq
theorem FL.new (h:FL K a t H L H') (hq:H' q=none):∀ y∈L,y.1≠q:=fun y hy z=>by
 obtain ⟨⟨vs,e,_⟩,_⟩:=h.ls y hy;rw [z,hq] at e;cases e
theorem FL.addS (h:FL K a t H L H') (hq:H' q=none) (g:Stay t H' H2) (tp:Tp K a 7 H2 t) (l:Lsd K H2 q ds) (n:Cod.zB ds=true):FL K a t H ((q,ds)::L) H2:=by
 have h2:=h.stay g tp;refine ⟨h2.rest,tp,fun y hy=>?_,fun y hy=>?_,?_⟩
 ·rcases Av.mp hy with rfl | hy
  ·exact ⟨l,n⟩
  ·exact h2.ls y hy
 ·rcases Av.mp hy with rfl | hy
  ·exact ⟨h.tp.apt hq,h.under hq⟩
  ·exact h.ap y hy
 ·rw [Bb,Ck];refine ⟨fun z=>?_,h.nd⟩;obtain ⟨y,hy,e⟩:=A3.mp z;exact h.new hq y hy e
theorem FL.add (h:FL K a t H L H') (hq:H' q=none) (g:qk H' H2) (l:Lsd K H2 q ds) (n:Cod.zB ds=true):FL K a t H ((q,ds)::L) H2:=by
 obtain ⟨kvs,hk⟩:=h.tp.dk;exact h.addS hq (Stay.of hk g) (h.tp.stay g) l n
theorem FL.nil (h:FL K a t H L H') (hq:H' q=none):FL K a t H ((q,[])::L) (upd H' q (.lst [])):=h.add hq (qe hq _) ⟨[],upd_same,.nil⟩ rfl
theorem FL.app (h:FL K a t H ((q,ds)::L) H'):∃ vs,H' q=some (.lst vs)∧vs.length=ds.length∧∀ v d,Rep K H' v d→Cod.noL d=true→FL K a t H ((q,ds++[d])::L) (upd H' q (.lst (vs++[v]))):=by
 obtain ⟨⟨vs,hv,r⟩,n⟩:=h.ls (q,ds) Bi;obtain ⟨ap,hb⟩:=h.ap (q,ds) Bi;refine ⟨vs,hv,r.length,fun v d rv nd=>?_⟩;have nn:Cod.zB (ds++[d])=true:=by
  rw [Cod.JR];show (Cod.zB ds&&(Cod.noL d&&true))=true;have n':Cod.zB ds=true:=n;rw [n',nd];rfl
 have hnd:=h.nd;rw [Bb,Ck] at hnd;refine ⟨fun u o hu e=>?_,h.tp.putL ap hv _,fun y hy=>?_,fun y hy=>?_,h.nd⟩
 ·rw [qo (qr e hb)];exact h.rest u o hu e
 ·rcases Av.mp hy with rfl | hy
  ·exact ⟨⟨_,upd_same,Reps.putL hv (r.append (.cons rv .nil)) nn⟩,nn⟩
  ·obtain ⟨⟨ws,hw,rw'⟩,nw⟩:=h.ls y (Bg _ hy);have ne:y.1≠q:=fun z=>hnd.1 (A3.mpr ⟨y,hy,z⟩);exact ⟨⟨ws,by rw [qo ne];exact hw,Reps.putL hv rw' nw⟩,nw⟩
 ·rcases Av.mp hy with rfl | hy
  ·exact ⟨ap,hb⟩
  ·exact h.ap y (Bg _ hy)
theorem FL.get (h:FL K a t H L H') (hx:(q,ds)∈L):Lsd K H' q ds:=(h.ls _ hx).1
end
theorem qd9 {σ:St} {H:Hp} {Q:VK} {a t:Ac} {n0 n:Nat} {whole:Bool} (hn:n≤9) (tp:Tp K a 7 H t) (h0:σ[0]?=some (some (.ref t))) (h2:σ[2]?=some (some (.bl whole)))
  (q:∀ r H' (ss:List Nat),H r=none→Stay t H H'→Tp K a 7 H' t→H' r=some (.lst (ss.map nV))→ss.length≤n→(∀ s∈ss,n0≤s∧s<n0+n)→(whole=true→ss=List.range' n0 n)→Q (.ref r) H'):
  zK (Itr (n0:Nat) n) [none,some 2,some 0] (qC 0) (tOr (Vq (qG 1)) (Vq (tOp (rI0 fun i j=> .bl (decide (j<i))) (jA (zH K) [] E0 (qw (qG 2) (qw (tC (.int 4)) zu))) (tC (.int 0))))) (qG 0) σ H Q:=by
 obtain ⟨kvs,hkv⟩:=tp.dk;refine zd n (fun i ys H'=>Stay t H H'∧Tp K a 7 H' t∧∃ ss:List Nat,ys=ss.map nV∧ss.length≤i∧(∀ s∈ss,n0≤s∧s<n0+i)∧(whole=true→ss=List.range' n0 i)) ⟨Stay.of hkv (qk.refl _),tp,[],rfl,An _,fun _ h=>(nomatch h),fun _=>rfl⟩ (fun i ys H' h=>?_) (As (show n≤100 from ⋯) O0) (fun i ys H' hi h=>?_) (fun ys H' h=>?_)
 ·obtain ⟨_,_,ss,rfl,h,_⟩:=h;rw [Aj];exact h
 ·obtain ⟨st,tp1,ss,rfl,le,lt,wh⟩:=h;refine ⟨hi,fun x H2 yl=>?_⟩;obtain ⟨rfl,rfl⟩:=yl;have e1:((zm [none,some 2,some 0] σ).set 0 (some (.int ((n0:Nat)+(i:Nat)))))[1]?=some (some (.bl whole)):=by
   show some (σ[2]?.join)=_;rw [h2];rfl
  have e2:((zm [none,some 2,some 0] σ).set 0 (some (.int ((n0:Nat)+(i:Nat)))))[2]?=some (some (.ref t)):=by
   show some (σ[0]?.join)=_;rw [h0];rfl
  have take:∀ {H3:Hp},Stay t H H3→Tp K a 7 H3 t→(qG 0 ((zm [none,some 2,some 0] σ).set 0 (some (.int ((n0:Nat)+(i:Nat))))) H3 fun y H5=>Stay t H H5∧Tp K a 7 H5 t∧∃ ss':List Nat,ss.map nV++[y]=ss'.map nV∧ss'.length≤i+1∧(∀ s∈ss',n0≤s∧s<n0+(i+1))∧(whole=true→ss'=List.range' n0 (i+1))):=fun st3 tp3=>by
   refine ⟨_,rfl,st3,tp3,ss++[n0+i],?_,by rw [Ax];exact Dk le,fun s hs=>?_,fun z=>?_⟩
   ·rw [A6,← Int.natCast_add];rfl
   ·rcases Az.mp hs with hs | hs
    ·have:=lt s hs;omega
    ·rw [Ay.mp hs];omega
   ·rw [wh z,List.range'_concat,Nat.one_mul]
  refine ⟨_,e1,_,rfl,qN (fun hw=>take st tp1) fun hw=>?_⟩;refine ⟨_,e2,t,4,a,7,rfl,tp1,O0,fun k H3 k0 k1 st3 tp3=>⟨_,_,rfl,rfl,_,rfl,qN (fun h=>take (st.trans st3) tp3) fun h=>?_⟩⟩;exact ⟨st.trans st3,tp3,ss,rfl,Dt le,fun s hs=>by have:=lt s hs;omega,fun z=>by rw [hw] at z;cases z⟩
 ·obtain ⟨st,tp1,ss,rfl,le,lt,wh⟩:=h;exact ⟨An _,fun D hD=>q D _ ss (st.free hD) (st.then (qe hD _)) (tp1.stay (qe hD _)) upd_same le lt wh⟩
theorem qea {σ:St} {H:Hp} {Q:VK} {r:Ac} {ss:List Nat} (hr:H r=some (.lst (ss.map nV))) (hl:ss.length≤9)
  (q:∀ p H',H p=none→qk H H'→Lsd K H' p (ss.map Cod.num0)→Q (.ref p) H'):
  zK (Itl K r) [none] (qC 0) Jw (VL (qw (tC (.str "number")) (qw (qG 0) (qw (tC (.int 0)) zu)))) σ H Q:=by
 refine zd ss.length (fun i ys H'=>qk H H'∧Reps K H' ys ((ss.take i).map Cod.num0)) ⟨qk.refl _,.nil⟩ (fun i ys H' h=>?_) (As (show ss.length≤100 from ⋯) O0) (fun i ys H' hi h=>?_) (fun ys H' h=>?_)
 ·rw [h.2.length,Aj];exact Bw _ _
 ·obtain ⟨g,re⟩:=h;obtain ⟨s,hs⟩:=vN (l:=ss) (i:=i) hi;have hv:(ss.map nV)[i]?=some (nV s):=by rw [Au,hs];rfl
  refine ⟨⟨_,_,SqL.of (g _ _ hr),hv⟩,fun x H2 yl=>?_⟩;obtain ⟨rfl,e⟩:=yl;have e:=e _ (SqL.of (g _ _ hr));rw [hv] at e;cases e;refine ⟨_,rfl,(O0:3≤Af),fun p hp=>⟨g.trans (qe hp _),?_⟩⟩;rw [Bl,hs,A6];exact (re.same (qe hp _)).append (.cons (.tup (SqT.of upd_same) (.cons (.str _) (.cons (.int _) (.cons (.int _) .nil)))) .nil)
 ·obtain ⟨g,re⟩:=h;rw [Bp] at re;exact ⟨⟨_,SqL.of (g _ _ hr),by rw [Aj];exact An _⟩,fun D hD=>q D _ (g.free hD) (g.trans (qe hD _)) ⟨ys,upd_same,re.same (qe hD _)⟩⟩
def j9 (hs:List Cod.Hd) (sts:List (List Aa)):List Aa:=(hs.zip sts).map fun p=>(p.1.mv p.2).data
theorem XW {hs:List Cod.Hd} {sts:List (List Aa)} {h:Cod.Hd} {ss:List Aa} (e:hs[sts.length]?=some h):j9 hs (sts++[ss])=j9 hs sts++[(h.mv ss).data]:=by
 have hl:=(A2.mp e).1;unfold j9;have ez:hs.zip (sts++[ss])=hs.zip sts++[(h,ss)]:=by
  refine List.ext_getElem? fun i=>?_;rcases Nat.lt_trichotomy i sts.length with hi | hi | hi
  ·rw [Br (by rw [Cg];omega)]
   have ea:=Ah (l:=hs) (i:=i) ⋯;have eb:=Ah (l:=sts) (i:=i) hi;have w1:(hs.zip (sts++[ss]))[i]?=some (hs[i]'⋯,sts[i]):=Bo.mpr ⟨ea,by rw [Br hi];exact eb⟩
   have w2:(hs.zip sts)[i]?=some (hs[i]'⋯,sts[i]):=Bo.mpr ⟨ea,eb⟩;rw [w1,w2]
  ·subst hi;rw [Bz (by rw [Cg];omega),Cg,Ec ⋯,Da]
   exact Bo.mpr ⟨e,by rw [Bz (An _),Da];rfl⟩
  ·rw [List.getElem?_eq_none (by rw [Cg,Ax];simp;omega),List.getElem?_eq_none (by rw [Ax,Cg];simp;omega)]
 rw [ez,A6];rfl
def Xp (K:Frag):Sp:=fun vs H Q _=>∃ t a,∃ (least:Nat) (whole:Bool),vs=[.ref t,.int (least:Nat),.bl whole]∧least≤2∧Tp K a 7 H t∧∀ v H' (hs:List Cod.Hd) (sts:List (List Aa)),Stay t H H'→Tp K a 7 H' t→Rep K H' v (.tuple (j9 hs sts))→1≤hs.length→hs.length≤4→sts.length=hs.length→
 (∀ i h,hs[i]?=some h→Cod.HOk least hs i h)→(∀ i h ss,hs[i]?=some h→sts[i]?=some ss→Cod.MsOk least whole hs i h ss)→Q v H'
theorem QA {σ:St} {H0 H:Hp} {Q:VK} {a t p:Ac} {L:List (Ac×List Aa)} {hs:List Cod.Hd} {i n:Nat} {h:Cod.Hd} (hn:n≤4) (fl:FL K a t H0 L H) (hp:(p,hsD hs)∈L) (hl4:hs.length≤4) (ehi:hs[i]?=some h) (hlt:h.names<h.slots) (hn7:h.names≤7) (hb7:h.boxed.length≤7) (ht3:h.taken.length≤3)
  (e0:σ[0]?=some (some (.ref t))) (e3:σ[3]?=some (some (.ref p))) (e5:σ[5]?=some (some (nV i)))
  (q:∀ r H' (rs:List Aa),H r=none→Stay t H H'→Tp K a 7 H' t→Lsd K H' r rs→rs.length=n→(∀ d∈rs,Cod.Ja hs i h d)→Q (.ref r) H'):
  zK (Itr 0 n) [none,some 0,some 3,some 5] (qC 0) Jw (jA (yz K) [] E0 (qw (qG 1) (qw (qG 2) (qw (qG 3) zu)))) σ H Q:=by
 obtain ⟨kvs,hkv⟩:=fl.tp.dk;refine zd n (fun k ys H'=>Stay t H H'∧Tp K a 7 H' t∧∃ rs:List Aa,Reps K H' ys rs∧rs.length=k∧∀ d∈rs,Cod.Ja hs i h d) ⟨Stay.of hkv (qk.refl _),fl.tp,[],.nil,rfl,fun _ h=>(nomatch h)⟩ (fun k ys H' h=>?_) (As (show n≤100 from ⋯) O0) (fun k ys H' hk h'=>?_) (fun ys H' h=>?_)
 ·obtain ⟨_,_,rs,r,rfl,_⟩:=h;rw [r.length];exact An _
 ·obtain ⟨st,tp1,rs,r,rfl,hr⟩:=h';refine ⟨hk,fun x H2 yl=>?_⟩;obtain ⟨rfl,rfl⟩:=yl;have f1:((zm [none,some 0,some 3,some 5] σ).set 0 (some (.int (0+(rs.length:Nat)))))[1]?=some (some (.ref t)):=by
   show some (σ[0]?.join)=_;rw [e0];rfl
  have f2:((zm [none,some 0,some 3,some 5] σ).set 0 (some (.int (0+(rs.length:Nat)))))[2]?=some (some (.ref p)):=by
   show some (σ[3]?.join)=_;rw [e3];rfl
  have f3:((zm [none,some 0,some 3,some 5] σ).set 0 (some (.int (0+(rs.length:Nat)))))[3]?=some (some (nV i)):=by
   show some (σ[5]?.join)=_;rw [e5];rfl
  refine ⟨_,f1,_,f2,_,f3,t,p,a,i,hs,h,rfl,tp1,((fl.stay st tp1).get hp),hl4,ehi,hlt,hn7,hb7,ht3,fun v d H3 st3 tp3 rv ok=>⟨st.trans st3,tp3,rs++[d],(r.stay st3).append (.cons rv .nil),by rw [Ax];rfl,fun e he=>?_⟩⟩
  rcases Az.mp he with z | z
  ·exact hr e z
  ·rw [Ay.mp z];exact ok
 ·obtain ⟨st,tp1,rs,r,el,hr⟩:=h;exact ⟨An _,fun D hD=>q D _ rs (st.free hD) (st.then (qe hD _)) (tp1.stay (qe hD _)) ⟨ys,upd_same,r.same (qe hD _)⟩ el hr⟩
theorem qe1 {least:Nat} {hs:List Cod.Hd} {i:Nat} {h:Cod.Hd} (hok:∀ i h,hs[i]?=some h→Cod.HOk least hs i h) (e:hs[i]?=some h):Cod.noL (.tuple h.d7)=true:=by
 have hi:=(A2.mp e).1;have ok:=hok i h e;refine XF ?_;have kd:=ok.kd
 by_cases z:i=0
 ·rw [ok.t0 z];rfl
 ·rw [if_neg z] at kd;obtain ⟨_,o,eo,lt⟩:=kd;obtain ⟨h',hh⟩:∃ h',hs[o]?=some h':=⟨_,Ah ⋯⟩;exact Vm fun d hd=>(ok.tf o h' eo hh d hd).1
theorem qdg {least:Nat} {hs:List Cod.Hd} (hok:∀ i h,hs[i]?=some h→Cod.HOk least hs i h):Cod.zB (hsD hs)=true:=Cod.zE fun x hx=>by
 obtain ⟨h,hm,rfl⟩:=A3.mp hx;obtain ⟨i,hi,e⟩:=Cf.mp hm;exact qe1 hok (i:=i) (by rw [Ah hi,e])
theorem Z5 {hs:List Cod.Hd} {i:Nat} {h:Cod.Hd} {ss:List Nat} (lt:∀ s∈ss,h.names≤s∧s<h.names+(h.slots - h.names)):∀ r∈ss.map Cod.num0,Cod.Ja hs i h r:=fun r hr=>by
 obtain ⟨s,hs',rfl⟩:=A3.mp hr;have:=lt s hs';exact Cod.wX ⟨⋯,⋯⟩ O0
theorem YV {hs:List Cod.Hd} {i:Nat} {h:Cod.Hd} {rs:List Aa} (ok:∀ r∈rs,Cod.Ja hs i h r):Cod.zB rs=true:=Cod.zE fun r hr=>(ok r hr).noL
theorem qfb {H:Hp} {q:Ac} {ds:List Aa} {Q:VK} (l:Lsd K H q ds) (k:∀ p H',H p=none→qk H H'→Rep K H' (.ref p) (.tuple ds)→Q (.ref p) H'):∃ p ys,[V.ref q]=[.ref p]∧((SqL K H p ys∧∀ l,H l=none→Q (.ref l) (upd H l (.tup ys)))∨SqT K H p ys∧Q (.ref p) H):=by
 obtain ⟨vs,h,r⟩:=l;exact ⟨q,vs,rfl,.inl ⟨SqL.of h,fun p hp=>k p _ hp (qe hp _) (.tup (SqT.of upd_same) (r.same (qe hp _)))⟩⟩
theorem qg2 {σ:St} {H:Hp} {Q:VK} {p8:Ac} {ds:List Aa} {k:Nat} {whole:Bool} (e8:σ[8]?=some (some (.ref p8))) (e10:σ[10]?=some (some (nV k))) (e2:σ[2]?=some (some (.bl whole))) (l:Lsd K H p8 ds) (fl:∀ d∈ds,Cod.Flt d) (q:∀ b H',qk H H'→(b=true→ds≠[]∧(whole=true→k=0→False))→Q (.bl b) H'):
  X5 (tOp (qag K) (qG 8) (v0 zu)) (qfe (tOp (rI0 fun i j=> .bl (decide (j<i))) (qG 10) (tC (.int 0))) (qep (qG 2))) σ H Q:=by
 refine Wk e8 l fl fun H' g=>⟨_,rfl,qN (fun hb=>?_) fun hb=>q _ _ g fun z=>by cases z⟩
 have hne:ds≠[]:=fun z=>by rw [z] at hb;cases hb
 refine ⟨_,e10,_,_,rfl,rfl,_,rfl,qN (fun hk=>q _ _ g fun _=>⟨hne,fun _ z=>?_⟩) fun hk=>⟨_,e2,_,rfl,q _ _ g fun z=>⟨hne,fun w _=>?_⟩⟩⟩
 ·have:=Co hk;omega
 ·rw [w] at z;cases z
theorem YJ (F:Fun K "_law_code" "_law_code" jR f fd) (c:Cs K mg ad) (d_law_draw:Def P w K mg base 1 "_law_draw" ["_law_tape_here","_law_many"] (zH K)) (d_law_places:Def P w K mg base 1 "_law_places" ["_law_heads_here","_law_number"] (qcr K)) (d_law_heads:Def P w K mg base 2 "_law_heads" ["_law_tape_here","_law_least"] (Za K)) (d_law_row_by:Def P w K mg base 2 "_law_row_by" ["_law_tape_here","_law_heads_here","_law_number"] (yz K)) (d_law_end_by:Def P w K mg base 2 "_law_end_by" ["_law_tape_here","_law_heads_here","_law_number","_law_many"] (Zb K)):FnOk P w K mg base CX0 3 f fd ["_law_tape_here","_law_least","_law_whole"] (Xp K):=by
 refine F.ok qP (fun vs H Q E h=>?_) (fun cdv A outer s H vs Q E hr h=>?_)
 ·obtain ⟨t,a,least,whole,rfl,_⟩:=h;rfl
 obtain ⟨t,a,least,whole,rfl,hle,tp,q⟩:=h;have hu64:=vA hr;refine ⟨_,(qf (pst 3 qP.nd (pdf d_law_heads (qa (pv 0) (qa (pv 1) qb))))
   (qf (pst 4 qP.nd (qT qb))
   (qf (ji Bt rfl (Ze (K:=K) rfl c.enumerate_ (qa (pv 3) qb)) (vq (K:=K) (n:=2) rfl rfl (qM (pgn 5 qP.nd) (qM (pgn 6 qP.nd) jr))) (qf (pst 7 qP.nd (qH (jf (K:=K) rfl) qc (pdf d_law_draw (qa (pv 0) (qa qc qb)))))
   (qf (pst 8 qP.nd (pdf d_law_places (qa (pv 3) (qa (pv 5) qb))))
   (qf (pst 9 qP.nd (qT qb))
   (qf (ji Bt rfl (zi rfl c.range_ (qa (pv 7) qb)) (pgn 10 qP.nd) (qf (pst 11 qP.nd (qT qb))
   (qf (qF (qu ze (pv 10) qc (qq _)) (qf (Jk (i:=12) qP.nd rfl (by first | exact Or.inl rfl | exact Or.inr rfl) (sc:=qh jR) (NX:=["_law_tape_here","_law_least","_law_whole","_law_heads_here","_law_code_here","_law_number","_law_head","_law_many","_law_places_here","_law_states","_law_k","_law_rows","_law_some","_law_catches","_law_j","_law_place"]) (N:=["_law_slot","_law_whole","_law_tape_here"]) (js:=[none,some 2,some 0]) (vV rfl c.range_ (qa (pix K (pv 6) qc) (qa (pix K (pv 6) qc) qb))) (fun _ _ _ _ _=>(qx (i:=0) (show (["_law_slot","_law_whole","_law_tape_here"]:List Str).Nodup from ∅) rfl (Or.inl rfl))) (fun _ _ _ _ _=>(vG (PW.pt (JQ (zh (pv 1)) (Jf (qu Zm (pdf d_law_draw (qa (pv 2) (qa qc qb))) qc (qq _))))))) (fun _ _ _ _ _=>(pv 0)) (qB rfl) ⟨∅,rfl,∅,∅,rfl,∅⟩)
   (qg (Jk (i:=11) qP.nd rfl (by first | exact Or.inl rfl | exact Or.inr rfl) (sc:=qh jR) (NX:=["_law_tape_here","_law_least","_law_whole","_law_heads_here","_law_code_here","_law_number","_law_head","_law_many","_law_places_here","_law_states","_law_k","_law_rows","_law_some","_law_catches","_law_j","_law_place"]) (N:=["_law_slot"]) (js:=[none]) (Jx (K:=K) rfl (pv 12)) (fun _ _ _ _ _=>(qx (i:=0) (show (["_law_slot"]:List Str).Nodup from ∅) rfl (Or.inl rfl))) (fun _ _ _ _ _=>zn) (fun _ _ _ _ _=>(qi (qa qj (qa (pv 0) (qa qc qb))))) (qB rfl) ⟨∅,rfl,∅,∅,rfl,∅⟩))) qv)
   (qf (qF (qu Zm (pix K (pv 6) qc) (pix K (pv 6) qc) (qq _)) (qg (pst 11 qP.nd (qH (jf (K:=K) rfl) (pv 11) (qX (sc:=qh jR) (NX:=["_law_tape_here","_law_least","_law_whole","_law_heads_here","_law_code_here","_law_number","_law_head","_law_many","_law_places_here","_law_states","_law_k","_law_rows","_law_some","_law_catches","_law_j","_law_place"]) (N:=["_law_j","_law_tape_here","_law_heads_here","_law_number"]) (js:=[none,some 0,some 3,some 5]) (zi rfl c.range_ (qa (pdf d_law_draw (qa (pv 0) (qa qc qb))) qb)) (fun _ _ _ _ _=>(qx (i:=0) (show (["_law_j","_law_tape_here","_law_heads_here","_law_number"]:List Str).Nodup from ∅) rfl (Or.inl rfl))) (fun _ _ _ _ _=>zn) (fun _ _ _ _ _=>(pdf d_law_row_by (qa (pv 1) (qa (pv 2) (qa (pv 3) qb))))) (qB rfl) ⟨∅,rfl,∅,∅,rfl,∅⟩)))) qv)
   (qf (pst 13 qP.nd (qT qb))
   (qf (ji Bt rfl (zi rfl c.range_ (qa (qH yR (pdf d_law_draw (qa (pv 0) (qa qc qb))) (zr yp (by rfl) c.int_ Yi (qa (zC (zb (Wl (K:=K) rfl hu64) (pv 8) (qT qb) (qq _)) (zp (Zg (zb Zm (pv 10) qc (qq _)) (zp (qas (pv 2)))))) qb))) qb)) (pgn 14 qP.nd) (qf (pst 15 qP.nd (pix K (pv 8) (pdf d_law_draw (qa (pv 0) (qa (qt (jN (K:=K) rfl) (by rfl) c.len_ zR (qa (pv 8) qb)) qb)))))
   (qg (je (WF (K:=K) rfl Bu B6 B5 jg (pv 13) (qa (qi (qa (pix K (qT (qa qj (qa qj (qa qj qb)))) (pdf d_law_draw (qa (pv 0) (qa qc qb)))) (qa (pv 15) (qa (pdf d_law_draw (qa (pv 0) (qa (pv 7) qb))) qb)))) qb))))))
   (qg (je (WF (K:=K) rfl Bu B6 B5 jg (pv 9) (qa (qi (qa (zr (Jy (K:=K) rfl) (by rfl) c.tuple_ zO (qa (pv 11) qb)) (qa (pdf d_law_end_by (qa (pv 0) (qa (pv 3) (qa (pv 5) (qa (pv 7) qb))))) (qa (zr (Jy (K:=K) rfl) (by rfl) c.tuple_ zO (qa (pv 13) qb)) qb)))) qb))))))))))
   (qg (je (WF (K:=K) rfl Bu B6 B5 jg (pv 4) (qa (qH (jf (K:=K) rfl) (pv 6) (qi (qa (zr (Jy (K:=K) rfl) (by rfl) c.tuple_ zO (qa (pv 9) qb)) qb))) qb)))))))))
   (qg (qm (zr (Jy (K:=K) rfl) (by rfl) c.tuple_ zO (qa (pv 4) qb))))))),?_⟩
 clear hu64 hr;refine ⟨_,rfl,_,rfl,t,a,least,rfl,hle,tp,fun p H1 hs hp st1 tp1 lh l1 l4 hok=>?_⟩;have fl1:FL K a t H [(p,hsD hs)] H1:=⟨st1.rest,tp1,fun x hx=>by
   cases Ay.mp hx;exact ⟨lh,qdg hok⟩,fun x hx=>by
   cases Ay.mp hx;exact ⟨tp.apt hp,hp⟩,by simp⟩
 refine Qj fun c1 hc1=>?_;have fl2:=fl1.nil hc1;generalize upd H1 c1 (.lst [])=H2 at fl2 ⊢;clear fl1 hc1 lh tp1 st1;obtain ⟨hvs,hvl,hvr⟩:=fl2.get (q:=p) (ds:=hsD hs) (by simp)
 refine ⟨_,rfl,p,rfl,⟨_,SqL.of hvl⟩,jn hs.length (fun j σ H'=>∃ (sts:List (List Aa)) (o5 o6 o7 o8 o9 o10 o11 o12 o13 o14 o15:Option V),FL K a t H [(c1,j9 hs sts),(p,hsD hs)] H'∧sts.length=j∧(∀ i h ss,hs[i]?=some h→sts[i]?=some ss→Cod.MsOk least whole hs i h ss)∧σ=[some (.ref t),some (.int (least:Nat)),some (.bl whole),some (.ref p),some (.ref c1),o5,o6,o7,o8,o9,o10,o11,o12,o13,o14,o15]) ⟨[],none,none,none,none,none,none,none,none,none,none,none,by simpa [j9] using fl2,rfl,fun i h ss _ e=>by simp at e,rfl⟩ (fun j σ H' hj h=>?_) (fun σ H' h=>?_)⟩
 ·obtain ⟨sts,o5,o6,o7,o8,o9,o10,o11,o12,o13,o14,o15,fl,hsl,hms,rfl⟩:=h;obtain ⟨h,ehj⟩:∃ h,hs[j]?=some h:=⟨_,Ah hj⟩;have ok:=hok j h ehj;have lh:=fl.get (q:=p) (ds:=hsD hs) (by simp)
  obtain ⟨vs,hvl',r'⟩:=lh;have rlen:=r'.length;have e':(hsD hs)[j]?=some (.tuple h.d7):=by rw [Au,ehj];rfl
  obtain ⟨hjl,_⟩:=A2.mp e';obtain ⟨v,hv⟩:=vN (l:=vs) (i:=j) ⋯;obtain ⟨d,hd,rv⟩:=r'.get hv;rw [e'] at hd;cases hd;have hq':SqL K H' p vs:=SqL.of hvl';refine ⟨⟨vs,v,hq',hv⟩,fun x H3 yl N hN=>?_⟩;obtain ⟨b,y,hb,rfl,e1,rfl⟩:=yl;have e2:=e1 _ hq';rw [hv] at e2;cases e2;have g3:=qe hb (.tup [.int (j:Nat),v]);have fl3:=fl.same g3;have rv3:=rv.same g3;have hb3:SqT K (upd H' b (.tup [.int (j:Nat),v])) b [.int (j:Nat),v]:=SqT.of upd_same;generalize upd H' b (.tup [.int (j:Nat),v])=H3 at fl3 rv3 hb3 ⊢;refine ⟨b,_,rfl,hb3,rfl,_,_,rfl,_,_,rfl,rfl,?_⟩;clear hb g3 fl hq' e1 rv hvl' r' rlen hv e';refine ⟨_,rfl,t,5,a,7,rfl,fl3.tp,O0,fun k4 H4 a0 a1 st4 tp4=>?_⟩;obtain ⟨nb,rfl⟩:∃ n:Nat,k4=(n:Nat):=⟨k4.toNat,⋯⟩;have fl4:=fl3.stay st4 tp4;have rv4:=rv3.stay st4;refine .inl (Xf (a:=1) ?_);generalize hmany:1+nb=many;have hm1:0<many:=⋯;have hm5:many≤5:=⋯;clear st4 tp4 a0 fl3 rv3;obtain ⟨v4,av4,rvv4⟩:=yg (fl4.get (q:=p) (ds:=hsD hs) (by simp)) ehj
  have nm:=ok.nm;have bn:=ok.bn;have tk:=ok.tk;refine ⟨_,rfl,_,rfl,.ref p,j,v4,_,_,_,_,h.names,h.boxed,h.taken,[],rfl,av4,rvv4,⋯,⋯,⋯,fun p8 H5 hp8 g5 l8=>?_⟩;have fl5:=fl4.add hp8 g5 l8 (Vm (h:=h) fun d hd=>hd);have rv5:=rv4.same g5;clear av4 rvv4 fl4 rv4 g5 hp8 l8;refine Qj fun c9 hc9=>?_;have fl6:=fl5.nil hc9;have rv6:=rv5.same (qe hc9 (.lst []));generalize upd H5 c9 (.lst [])=H6 at fl6 rv6 ⊢;clear fl5 rv5 hc9;have hnl:h.names≤h.slots:=by have:=ok.s1;omega
  have hs9:h.slots - h.names≤5:=by have:=ok.s2;omega
  have nv:=qe1 hok ehj;have fpl:∀ d∈Cod.ja h.names h.boxed h.taken.length,Cod.Flt d:=fun d hd=>by
   obtain ⟨w,k,rfl,hw⟩:=Cod.wZ (h:=h) hd;exact Cod.y9 hw
  clear hvl hvr hb3 a1 fl2;refine ⟨_,rfl,_,rfl,⋯,⋯,?_⟩;rw [Bf];refine jn many (fun k σ H'=>∃ (ss:List Aa) (o10 o11 o12 o13 o14 o15:Option V),FL K a t H [(c9,ss),(p8,Cod.ja h.names h.boxed h.taken.length),(c1,j9 hs sts),(p,hsD hs)] H'∧Rep K H' v (.tuple h.d7)∧ss.length=k∧(∀ i d,ss[i]?=some d→Cod.StOk hs j h many whole i d)∧σ=[some (.ref t),some (.int (least:Nat)),some (.bl whole),some (.ref p),some (.ref c1),some (nV j),some v,some (nV many),some (.ref p8),some (.ref c9),o10,o11,o12,o13,o14,o15]) ⟨[],o10,o11,o12,o13,o14,o15,fl6,rv6,rfl,fun i d e=>by simp at e,rfl⟩ (fun k σ H' hk h'=>?_) (fun σ H' h'=>?_)
  ·obtain ⟨ss,o10,o11,o12,o13,o14,o15,fl,rv,hsk,hst,rfl⟩:=h';clear fl6 rv6;refine ⟨hk,fun x H7 yl N' hN'=>?_⟩;obtain ⟨rfl,rfl⟩:=yl;rw [Dl];show Jn (VM (v0 zu) (qC 11)) _ _ [some (.ref t),some (.int (least:Nat)),some (.bl whole),some (.ref p),some (.ref c1),some (nV j),some v,some (nV many),some (.ref p8),some (.ref c9),some (nV k),o11,o12,o13,o14,o15] H7;refine Qj fun c11 hc11=>?_;have fl1:=fl.nil hc11;have rv1:=rv.same (qe hc11 (.lst []));generalize upd H7 c11 (.lst [])=H8 at fl1 rv1 ⊢;clear fl rv hc11;show Jn _ _ _ [some (.ref t),some (.int (least:Nat)),some (.bl whole),some (.ref p),some (.ref c1),some (nV j),some v,some (nV many),some (.ref p8),some (.ref c9),some (nV k),some (.ref c11),o12,o13,o14,o15] H8;refine jB fun D1 n1 r1=>vx fun B b1 b2=>?_;have next1:∀ H6 c11 rs o12,FL K a t H [(c11,rs),(c9,ss),(p8,Cod.ja h.names h.boxed h.taken.length),(c1,j9 hs sts),(p,hsD hs)] H6→Rep K H6 v (.tuple h.d7)→rs.length≤9→(∀ r∈rs,Cod.Ja hs j h r)→(whole=true→k=0→rs=(List.range' h.names (h.slots - h.names)).map Cod.num0)→D1.nx [some (.ref t),some (.int (least:Nat)),some (.bl whole),some (.ref p),some (.ref c1),some (nV j),some v,some (nV many),some (.ref p8),some (.ref c9),some (nV k),some (.ref c11),o12,o13,o14,o15] H6:=fun H6 c11 rs o12 fl rv lrs hrs hw=>by
    refine n1 _ _ ?_;clear n1 r1 D1 b1 b2 B fl1 rv1;refine jB fun D2 n2 r2=>vx fun B b1 b2=>?_;have next2:∀ H6 c11 rs,FL K a t H [(c11,rs),(c9,ss),(p8,Cod.ja h.names h.boxed h.taken.length),(c1,j9 hs sts),(p,hsD hs)] H6→Rep K H6 v (.tuple h.d7)→rs.length≤20→(∀ r∈rs,Cod.Ja hs j h r)→(whole=true→k=0→∃ rest,rs=(List.range' h.names (h.slots - h.names)).map Cod.num0++rest)→D2.nx [some (.ref t),some (.int (least:Nat)),some (.bl whole),some (.ref p),some (.ref c1),some (nV j),some v,some (nV many),some (.ref p8),some (.ref c9),some (nV k),some (.ref c11),o12,o13,o14,o15] H6:=fun H6 c11 rs fl rv lrs hrs hw=>by
     refine n2 _ _ ?_;clear n2 r2 D2 b1 b2 B;refine Qj fun c13 hc13=>?_;have fl1:=fl.nil hc13;have rv1:=rv.same (qe hc13 (.lst []));generalize upd H6 c13 (.lst [])=H7 at fl1 rv1 ⊢;clear fl rv hc13;refine ⟨_,rfl,t,3,a,7,rfl,fl1.tp,O0,fun i9 H8 i0 i1 st8 tp8=>?_⟩;have fl2:=fl1.stay st8 tp8;have rv2:=rv1.stay st8;refine qg2 (p8:=p8) (k:=k) (whole:=whole) rfl rfl rfl (fl2.get (q:=p8) (ds:=Cod.ja h.names h.boxed h.taken.length) (by simp)) fpl fun bb H9 g9 hbb=> .inr ⟨bb,rfl,_,_,rfl,rfl,.inl ⟨⋯,⋯⟩,?_⟩
     have fl3:=fl2.same g9;have rv3:=rv2.same g9;clear fl1 rv1 fl2 rv2 st8 tp8 g9;obtain ⟨n9,en9,ln9,z9⟩:∃ n:Nat,i9*(if bb=true then 1 else 0)=(n:Nat)∧n≤2∧(0<n→bb=true):=by
      cases bb with
      | false=>exact ⟨0,by simp,O0,fun z=>absurd z O0⟩
      | true=>exact ⟨i9.toNat,by simp;omega,⋯,fun _=>rfl⟩
     refine ⟨n9,congrArg (fun z=>[V.int z]) en9,⋯,⋯,?_⟩;rw [Bf];refine jn n9 (fun m σ H'=>∃ (cts:List Aa) (o14 o15:Option V),FL K a t H [(c13,cts),(c11,rs),(c9,ss),(p8,Cod.ja h.names h.boxed h.taken.length),(c1,j9 hs sts),(p,hsD hs)] H'∧Rep K H' v (.tuple h.d7)∧cts.length=m∧(∀ c∈cts,Cod.yw hs j h many c)∧σ=[some (.ref t),some (.int (least:Nat)),some (.bl whole),some (.ref p),some (.ref c1),some (nV j),some v,some (nV many),some (.ref p8),some (.ref c9),some (nV k),some (.ref c11),o12,some (.ref c13),o14,o15]) ⟨[],o14,o15,fl3,rv3,rfl,fun _ h=>(nomatch h),rfl⟩ (fun m σ H' hm h'=>?_) (fun σ H' h'=>?_)
     ·obtain ⟨cts,o14,o15,fl,rv,hcl,hct,rfl⟩:=h';clear fl3 rv3 en9;obtain ⟨hne,_⟩:=hbb (z9 ⋯);refine ⟨hm,fun x H7 yl N2 hN2=>?_⟩;obtain ⟨rfl,rfl⟩:=yl;have l8:=fl.get (q:=p8) (ds:=Cod.ja h.names h.boxed h.taken.length) (by simp)
      have hpos:0<(Cod.ja h.names h.boxed h.taken.length).length:=List.length_pos_iff.mpr hne;refine ⟨_,rfl,_,rfl,_,rfl,_,_,rfl,l8.len,t,_,a,7,rfl,fl.tp,⋯,fun i4 H4 j0 j1 st4 tp4=>?_⟩;refine (l8.stay st4).at j0 j1 fun u d hd ru=>?_;have fl4:=fl.stay st4 tp4;have rv4:=rv.stay st4;clear fl rv l8 st4 tp4 j0 j1;obtain ⟨vs13,hv13,_⟩:=fl4.get (q:=c13) (ds:=cts) (by simp)
      refine ⟨_,rfl,.inl ⟨rfl,_,SqL.of hv13⟩,?_⟩;refine ⟨(O0:3≤Af),fun q1 hq1=>⟨_,rfl,t,3,a,7,rfl,fl4.tp.stay (qe hq1 _),O0,fun i5 H5 j0 j1 st5 tp5=>?_⟩⟩;obtain ⟨w5,hw5,z,rfl,hz⟩:=vZ (xs:=[V.str "any",V.str "kind",V.str "b"]) (i:=i5) (p:=fun v=>∃ z:Str,v= .str z∧Tre.JH z=true) (by
       simp only [Av,A7,or_false];rintro x (rfl | rfl | rfl)
       all_goals exact ⟨_,rfl,∅⟩) j0 j1
      refine .inl ⟨q1,_,i5,_,rfl,rfl,st5.sqL (SqL.of upd_same),hw5,?_⟩;have fl5:=(fl4.same (qe hq1 (.lst [V.str "any",V.str "kind",V.str "b"]))).stay st5 tp5;have rv5:=(rv4.same (qe hq1 (.lst [V.str "any",V.str "kind",V.str "b"]))).stay st5;have ru5:=(ru.same (qe hq1 (.lst [V.str "any",V.str "kind",V.str "b"]))).stay st5;clear fl4 rv4 ru hq1 st5 tp5 hw5 hv13 j0 j1;refine ⟨_,rfl,_,rfl,_,rfl,t,_,a,7,rfl,fl5.tp,⋯,fun i6 H6 j0 j1 st6 tp6=>?_⟩;obtain ⟨k6,rfl⟩:∃ n:Nat,i6=(n:Nat):=⟨i6.toNat,⋯⟩;have fl6:=fl5.stay st6 tp6;have rv6:=rv5.stay st6;have ru6:=ru5.stay st6;clear fl5 rv5 ru5 st6 tp6;refine ⟨(O0:3≤Af),fun e he=>?_⟩;have g7:=qe he (.tup [.str z,u,nV k6]);have fl7:=fl6.same g7;have rv7:=rv6.same g7;have ok7:Cod.yw hs j h many (.tuple [.str z,d,.int (k6:Nat)]):=Cod.qg4 hz hd ⋯;have re:Rep K (upd H6 e (.tup [.str z,u,nV k6])) (.ref e) (.tuple [.str z,d,.int (k6:Nat)]):= .tup (SqT.of upd_same) (.cons (.str _) (.cons (ru6.same g7) (.cons (.int _) .nil)));generalize upd H6 e (.tup [.str z,u,nV k6])=H7 at fl7 rv7 re ⊢;obtain ⟨ws,hws,wl,app⟩:=fl7.app;refine ⟨c13,ws,.ref e,rfl,rfl,hws,Cb (show ws.length≤100 from ⋯) O0,hN2 _ _ ⟨cts++[.tuple [.str z,d,.int (k6:Nat)]],_,_,app _ _ re ok7.noL,Rep.putL hws rv7 nv,by rw [Ax,hcl];rfl,fun c hc=>?_,rfl⟩⟩
      rcases Az.mp hc with y | y
      ·exact hct c y
      ·rw [Ay.mp y];exact ok7
     ·obtain ⟨cts,o14,o15,fl,rv,hcl,hct,rfl⟩:=h';clear fl3 rv3 en9;refine ⟨An _,?_⟩;obtain ⟨vs9,hv9,_⟩:=fl.get (q:=c9) (ds:=ss) (by simp)
      refine ⟨_,rfl,.inl ⟨rfl,_,SqL.of hv9⟩,_,rfl,?_⟩;obtain ⟨vs11,hv11,rl11⟩:=fl.get (q:=c11) (ds:=rs) (by simp)
      refine ⟨c11,vs11,rfl,.inl ⟨SqL.of hv11,fun e1 he1=>?_⟩⟩;have g8:=qe he1 (.tup vs11);have re1:Rep K (upd H' e1 (.tup vs11)) (.ref e1) (.tuple rs):= .tup (SqT.of upd_same) (rl11.same g8);generalize upd H' e1 (.tup vs11)=H8 at g8 re1 ⊢;have fl1:=fl.same g8;have rv1:=rv.same g8;clear fl rv hv9;refine ⟨_,rfl,_,rfl,_,rfl,_,rfl,t,p,a,j,many,hs,h,rfl,fl1.tp,fl1.get (q:=p) (ds:=hsD hs) (by simp),l4,ehj,hm1,hnl,fun u d H9 st9 tp9 ru oke=>?_⟩
      have fl2:=fl1.stay st9 tp9;have rv2:=rv1.stay st9;have re2:=re1.stay st9;clear fl1 rv1 re1;refine ⟨_,rfl,?_⟩;obtain ⟨vs13,hv13,rl13⟩:=fl2.get (q:=c13) (ds:=cts) (by simp)
      refine ⟨c13,vs13,rfl,.inl ⟨SqL.of hv13,fun e2 he2=>?_⟩⟩;have g10:=qe he2 (.tup vs13);have rc:Rep K (upd H9 e2 (.tup vs13)) (.ref e2) (.tuple cts):= .tup (SqT.of upd_same) (rl13.same g10);generalize upd H9 e2 (.tup vs13)=H10 at g10 rc ⊢;refine ⟨(O0:3≤Af),fun e3 he3=>?_⟩;have g11:=qe he3 (.tup [.ref e1,u,.ref e2]);have gg:=g10.trans g11;have fl3:=fl2.same gg;have rv3:=rv2.same gg;have re:Rep K (upd H10 e3 (.tup [.ref e1,u,.ref e2])) (.ref e3) (.tuple [.tuple rs,d,.tuple cts]):= .tup (SqT.of upd_same) (.cons (re2.same gg) (.cons (ru.same gg) (.cons (rc.same g11) .nil)));have stk:Cod.StOk hs j h many whole k (.tuple [.tuple rs,d,.tuple cts]):=⟨rs,d,cts,rfl,lrs,hrs,oke,⋯,hct,fun hw0 hk0=>⟨?_,hw hw0 hk0⟩⟩
      ·generalize upd H10 e3 (.tup [.ref e1,u,.ref e2])=H11 at fl3 rv3 re ⊢;obtain ⟨ws,hws,wl,app⟩:=fl3.drop.drop.app;refine ⟨c9,ws,.ref e3,rfl,rfl,hws,Cb (show ws.length≤100 from ⋯) O0,hN' _ _ ⟨ss++[.tuple [.tuple rs,d,.tuple cts]],_,_,_,_,_,_,app _ _ re stk.noL,Rep.putL hws rv3 nv,by rw [Ax,hsk];rfl,fun i dd e=>?_,rfl⟩⟩
       by_cases hi:i<ss.length
       ·rw [Br hi] at e;exact hst i dd e
       ·rw [Bz ⋯] at e;have:i=ss.length:=by
         have:=(A2.mp e).1;simp at this;omega
        subst this;rw [Da] at e;cases e;rw [hsk];exact stk
      ·rw [← List.length_eq_zero_iff,hcl]
       by_cases z:0<n9
       ·exact absurd hk0 (fun z'=>(hbb (z9 z)).2 hw0 z')
       ·omega
    refine ⟨_,rfl,ixr (i:=4) rv rfl fun u ru=>?_⟩;cases ru;refine ⟨_,rfl,ixr (i:=3) rv rfl fun u ru=>?_⟩;cases ru;refine ⟨_,_,rfl,rfl,_,rfl,?_⟩
    by_cases hlt:h.names<h.slots
    ·refine bP (Am ⋯) (b1 _ ?_);refine ⟨_,rfl,_,rfl,t,4,a,7,rfl,fl.tp,O0,fun i4 H7 j0 j1 st7 tp7=>?_⟩;obtain ⟨n4,rfl⟩:∃ n:Nat,i4=(n:Nat):=⟨i4.toNat,⋯⟩;refine ⟨_,rfl,⋯,⋯,?_⟩;rw [Bf];have fl1:=fl.stay st7 tp7;have rv1:=rv.stay st7;refine QA (n:=n4) ⋯ fl1 (p:=p) (hs:=hs) (by simp) l4 ehj hlt nm bn tk rfl rfl rfl fun r H8 rs2 hr st8 tp8 l8 len8 hrs8=>?_
     have fl2:=fl1.stay st8 tp8;have rv2:=rv1.stay st8;obtain ⟨vs1,hl1,r1⟩:=fl2.get (q:=c11) (ds:=rs) (by simp)
     obtain ⟨vs2,hl2,r2⟩:=l8;have len1:=r1.length;have len2:=r2.length;refine .inl (XX hl1 hl2 (As (show _≤300 from ⋯) O0) fun p3 hp3=>?_);have g3:=qe hp3 (.lst (vs1++vs2));have hall:∀ r∈rs++rs2,Cod.Ja hs j h r:=fun r hr=>by
      rcases Az.mp hr with y | y
      ·exact hrs r y
      ·exact hrs8 r y
     refine next2 _ p3 (rs++rs2) (fl2.drop.add hp3 g3 ⟨_,upd_same,(r1.append r2).same g3⟩ (YV hall)) (rv2.same g3) (by rw [Ax];omega) hall fun hw0 hk0=>⟨rs2,by rw [hw hw0 hk0]⟩
    ·refine bN (Ao ⋯) (b2 _ (next2 _ _ rs fl rv ⋯ hrs fun hw0 hk0=>⟨[],by rw [Cj];exact hw hw0 hk0⟩))
   refine ⟨_,rfl,rfl,_,rfl,?_⟩
   by_cases c0:k=0
   ·refine bP (show decide _=true from Am (by rw [c0];rfl)) (b1 _ ?_)
    refine ⟨_,rfl,ixr (i:=3) rv1 rfl fun u ru=>?_⟩;cases ru;refine ⟨_,rfl,ixr (i:=4) rv1 rfl fun u ru=>?_⟩;cases ru;refine ⟨_,_,rfl,⟨⋯,⋯,⋯,⋯⟩,?_⟩;have en:(((h.slots:Nat):Int) - ((h.names:Nat):Int)).toNat=h.slots - h.names:=⋯;rw [en];refine qd9 (n0:=h.names) (n:=h.slots - h.names) (whole:=whole) ⋯ fl1.tp rfl rfl fun r H' ss' hr st' tp' hv' len' lt' wh'=>?_;have fl2:=fl1.stay st' tp';have rv2:=rv1.stay st';refine ⟨_,rfl,.inl ⟨r,rfl,⟨_,SqL.of hv'⟩,qea hv' ⋯ fun p3 H9 hp3 g9 l9=>?_⟩⟩;have hall:=Z5 (hs:=hs) (i:=j) (h:=h) lt';exact next1 _ p3 _ _ (fl2.drop.add hp3 g9 l9 (YV hall)) (rv2.same g9) (by rw [Aj];omega) hall fun hw0 _=>by rw [wh' hw0]
   ·exact bN (show decide _=false from Ao fun z=>c0 (by have:=V.int.inj z;omega)) (b2 _ (next1 _ _ [] _ fl1 rv1 O0 (fun _ h=>(nomatch h)) fun _ z=>absurd z c0))
  ·obtain ⟨ss,o10,o11,o12,o13,o14,o15,fl,rv,hsk,hst,rfl⟩:=h';refine ⟨An _,?_⟩;obtain ⟨vs4,hv4,_⟩:=fl.get (q:=c1) (ds:=j9 hs sts) (by simp)
   refine ⟨_,rfl,.inl ⟨rfl,_,SqL.of hv4⟩,_,rfl,_,rfl,?_⟩;obtain ⟨vs9,hv9,rl9⟩:=fl.get (q:=c9) (ds:=ss) (by simp)
   refine ⟨c9,vs9,rfl,.inl ⟨SqL.of hv9,fun e1 he1=>?_⟩⟩;have g8:=qe he1 (.tup vs9);have re1:Rep K (upd H' e1 (.tup vs9)) (.ref e1) (.tuple ss):= .tup (SqT.of upd_same) (rl9.same g8);generalize upd H' e1 (.tup vs9)=H8 at g8 re1 ⊢;refine ⟨(O0:1≤Af),fun e2 he2=>?_⟩;have g9:=qe he2 (.tup [.ref e1]);have gg:=g8.trans g9;have fl1:=fl.same gg;have rv1:=rv.same gg;have re2:=re1.same g9;have hq2:SqT K (upd H8 e2 (.tup [.ref e1])) e2 [.ref e1]:=SqT.of upd_same;generalize upd H8 e2 (.tup [.ref e1])=H9 at fl1 rv1 re2 hq2 ⊢;cases rv1 with
   | @tup va vxs _ hvq hvr=>
    have vlen:=hvr.length;have vlen7:h.d7.length=7:=rfl;refine .inr ⟨va,e2,vxs,_,rfl,rfl,hvq,hq2,As (show _≤8 by rw [vlen,vlen7];exact An 8) O0,fun e3 H10 g10 hq3=>?_⟩
    have fl2:=fl1.same g10;have re:Rep K H10 (.ref e3) (h.mv ss).data:= .tup hq3 ((hvr.append (.cons re2 .nil)).same g10);have nre:Cod.noL (h.mv ss).data=true:=by
     have n1:Cod.zB ss=true:=Cod.zE fun d hd=>by
      obtain ⟨i,hi,e⟩:=Cf.mp hd;exact (hst i d (by rw [Ah hi,e])).noL
     rw [Cod.Hd.data];show Cod.zB (h.d7++[.tuple ss])=true;have n2:Cod.zB h.d7=true:=nv;rw [Cod.JR,n2];show (true&&(Cod.zB ss&&true))=true;rw [n1];rfl
    obtain ⟨ws,hws,wl,app⟩:=fl2.drop.drop.app;have cl:(j9 hs sts).length=sts.length:=by
     unfold j9;rw [Aj,Cg];omega
    refine ⟨c1,ws,.ref e3,rfl,rfl,hws,Cb (show ws.length≤100 from ⋯) O0,hN _ _ ⟨sts++[ss],_,_,_,_,_,_,_,_,_,_,_,?_,by rw [Ax,hsl];rfl,fun i h' ss' eh es=>?_,rfl⟩⟩
    ·rw [XW (by rw [hsl];exact ehj)]
     exact app _ _ re nre
    ·by_cases hi:i<sts.length
     ·rw [Br hi] at es;exact hms i h' ss' eh es
     ·rw [Bz ⋯] at es;have:i=sts.length:=by
       have:=(A2.mp es).1;simp at this;omega
      subst this;rw [Da] at es;cases es;rw [hsl,ehj] at eh;cases eh;rw [hsl];exact ⟨⋯,⋯,fun k d e=>by rw [hsk];exact hst k d e⟩
 ·obtain ⟨sts,o5,o6,o7,o8,o9,o10,o11,o12,o13,o14,o15,fl,hsl,hms,rfl⟩:=h;obtain ⟨vs,hv,_⟩:=fl.get (q:=p) (ds:=hsD hs) (by simp)
  have hvlen:vs.length=hs.length:=by
   obtain ⟨vs',hv',r'⟩:=fl.get (q:=p) (ds:=hsD hs) (by simp)
   rw [hv] at hv';cases hv';rw [r'.length,Aj]
  refine ⟨⟨_,SqL.of hv,⋯⟩,_,rfl,qfb (fl.get (q:=c1) (ds:=j9 hs sts) (by simp)) fun e H3 he g3 re=>?_⟩
  have fl3:=fl.same g3;exact q _ _ hs sts ⟨tp.dk,fl3.tp.dk,fun v o n e=>fl3.rest v o n e⟩ fl3.tp re l1 l4 hsl hok hms
theorem qg0 {xs:List V} {n:Nat}:JX xs none (some (n:Int))=xs.take n:=by
 unfold JX;rw [HT.sIx_none,HT.sIx_nat,List.drop_zero,Nat.sub_zero]
 by_cases h:n≤xs.length
 ·rw [Nat.min_eq_left h]
 ·rw [Ec ⋯,Cn (An _),Cn ⋯]
theorem qb3 {xs:List V} {n:Nat}:JX xs (some (n:Int)) none=xs.drop n:=by
 unfold JX;rw [HT.sIx_none,HT.sIx_nat]
 by_cases h:n≤xs.length
 ·rw [Nat.min_eq_left h];exact Cn (by rw [D9];exact An _)
 ·rw [Ec ⋯,Ds (An _),Ds ⋯,List.take_nil]
abbrev rPl (K:Frag):R2:=fun x y H Q=>JP x y H Q∨qah K x y H Q
def Me (K:Frag) (t:TE) (σ:St) (H0:Hp) (d:Aa):Prop:=∀ H Q,qk H0 H→(∀ x H',qk H H'→Rep K H' x d→Q x H')→t σ H Q
def Mes (K:Frag) (t:TA) (σ:St) (H0:Hp) (m:Nat) (ds:List Aa):Prop:=ds.length=m∧∀ H Q,qk H0 H→(∀ xs H',qk H H'→Reps K H' xs ds→Q xs H')→t σ H Q
def Mi (t:TE) (σ:St) (z:Int):Prop:=∀ H (Q:VK),Q (.int z) H→t σ H Q
section
variable {t tx tk ta tb:TE} {ts:TA} {σ:St} {H H0:Hp} {d:Aa} {ds es:List Aa} {n m k i:Nat} {v:V} {Q:VK} {z y:Int} {r:TS} {D:Ends}
theorem Me.go (h:Me K t σ H d) (q:∀ x H',qk H H'→Rep K H' x d→Q x H'):t σ H Q:=h H Q (qk.refl _) q
theorem Me.set (h:Me K t σ H d) (q:∀ x H',qk H H'→Rep K H' x d→r D (σ.set i (some x)) H'):Jn (VM t (qC i)) r D σ H:=h H (fun x H1=>r D (σ.set i (some x)) H1) (qk.refl _) q
theorem vw (e:σ[i]?=some (some (.int z))):Mi (qG i) σ z:=fun H Q q=>⟨_,e,q⟩
theorem mi_c:Mi (tC (.int z)) σ z:=fun H Q q=>q
theorem qgd (h:Mi ta σ z) (g:Mi tb σ y):Mi (tOp JP ta tb) σ (z+y):=fun H Q q=>h _ _ (g _ _ (.inl ⟨_,_,rfl,rfl,q⟩))
theorem Mi.me (h:Mi t σ z):Me K t σ H0 (.int z):=fun H Q _ q=>h H Q (q _ H (qk.refl _) (.int z))
theorem jJ {x:Str}:Me K (tC (.str x)) σ H0 (.str x):=fun H Q _ q=>q _ H (qk.refl _) (.str x)
theorem jK {j:Int}:Me K (tC (.int j)) σ H0 (.int j):=fun H Q _ q=>q _ H (qk.refl _) (.int j)
theorem me_n:Me K (tC .non) σ H0 .none:=fun H Q _ q=>q _ H (qk.refl _) .non
theorem jw (e:σ[i]?=some (some v)) (r:Rep K H0 v d):Me K (qG i) σ H0 d:=fun H Q g q=>⟨v,e,q v H (qk.refl _) (r.same g)⟩
theorem ql:Mes K zu σ H0 0 []:=⟨rfl,fun H Q _ q=>q _ H (qk.refl _) .nil⟩
theorem qd (h:Me K t σ H0 d) (r:Mes K ts σ H0 m ds):Mes K (qw t ts) σ H0 (m+1) (d::ds):=⟨by rw [Bj,r.1],fun H Q g q=>h H _ g fun x H1 g1 rx=>r.2 H1 _ (g.trans g1) fun xs H2 g2 rs=>q _ _ (g1.trans g2) (.cons (rx.same g2) rs)⟩
theorem qL (h:Mes K ts σ H0 m ds) (hm:m≤100:=by decide):Me K (VL ts) σ H0 (.tuple ds):=fun H Q g q=>h.2 H _ g fun xs H1 g1 rs=>⟨As (show xs.length≤100 by rw [rs.length,h.1];exact hm) O0,fun p hp=>q _ _ (g1.trans (qe hp _)) (.tup (SqT.of upd_same) (rs.same (qe hp _)))⟩
theorem qiq (h:Mes K ts σ H0 m ds) (hm:m≤100:=by decide):Me K (v0 ts) σ H0 (.list ds):=fun H Q g q=>h.2 H _ g fun xs H1 g1 rs=>⟨As (show xs.length≤100 by rw [rs.length,h.1];exact hm) O0,fun p hp=>q _ _ (g1.trans (qe hp _)) (.lst (SqL.of upd_same) (rs.same (qe hp _)))⟩
theorem qa5 (h:Me K ta σ H0 (.tuple ds)) (g:Me K tb σ H0 (.tuple es)) (hl:ds.length+es.length≤10000):Me K (tOp (rPl K) ta tb) σ H0 (.tuple (ds++es)):=fun H Q s q=>h H _ s fun x H1 g1 rx=>g H1 _ (s.trans g1) fun y H2 g2 ry=>by
 cases rx with
 | @tup a xs _ ha rs=>
  cases ry with
  | @tup b ys _ hb rt=>
   have l1:=rs.length;have l2:=rt.length;exact .inr ⟨a,b,xs,ys,rfl,rfl,g2.sqT ha,hb,As (show _≤10000 from ⋯) O0,fun c H3 g3 hc=>q _ _ (g1.trans (g2.trans g3)) (.tup hc (((rs.same g2).append rt).same g3))⟩
theorem qip (h:Me K t σ H0 d) {d':Aa} (e:d=d'):Me K t σ H0 d':=e▸h
end
theorem qd5 {xs:List V} {k l:Nat}:JX xs (some (k:Int)) (some (l:Int))=(xs.drop k).take (l - k):=by
 unfold JX;rw [HT.sIx_nat,HT.sIx_nat]
 by_cases h:k≤xs.length
 ·rw [Nat.min_eq_left h]
  by_cases h2:l≤xs.length
  ·rw [Nat.min_eq_left h2]
  ·rw [Ec ⋯,Cn (by rw [D9];exact An _),Cn (by rw [D9];omega)]
 ·rw [Ec (a:=k) ⋯,Ds (An _),Ds ⋯,List.take_nil,List.take_nil]
def Sv (K:Frag) (H:Hp) (v:V) (xs:List V):Prop:=∃ p,v= .ref p∧(SqL K H p xs∨SqT K H p xs)
theorem Sv.same {H H':Hp} {v:V} {xs:List V} (s:Sv K H v xs) (g:qk H H'):Sv K H' v xs:=by
 obtain ⟨p,rfl,h | h⟩:=s
 ·exact ⟨p,rfl,.inl (g.seq h)⟩
 ·exact ⟨p,rfl,.inr (g.sqT h)⟩
theorem qad {H:Hp} {a p:Ac} {u o:HO} {kvs:List (Key×V)} (h:Rd H a u) (hp:H p=some (.dK kvs)) (hu:u≠ .dK kvs):Rd (upd H p o) a u:=by
 have ne:a≠p:=fun z=>by
  rcases h with h | ⟨o,h⟩
  ·rw [z,hp] at h;exact hu (Bh h).symm
  ·rw [z,hp] at h;cases h
 rcases h with h | ⟨o,h⟩
 ·exact .inl (by rw [qo ne];exact h)
 ·exact .inr ⟨o,by rw [qo ne];exact h⟩
theorem Sv.upd {H:Hp} {v:V} {xs:List V} {p:Ac} {o:HO} {kvs:List (Key×V)} (s:Sv K H v xs) (hp:H p=some (.dK kvs)):Sv K (upd H p o) v xs:=by
 obtain ⟨a,rfl,(h | h) | (h | h)⟩:=s
 ·exact ⟨a,rfl,.inl (.inl (qad h hp (by intro z;cases z)))⟩
 ·exact ⟨a,rfl,.inl (.inr h)⟩
 ·exact ⟨a,rfl,.inr (.inl (qad h hp (by intro z;cases z)))⟩
 ·exact ⟨a,rfl,.inr (.inr h)⟩
def Ms (K:Frag) (t:TE) (σ:St) (H0:Hp) (xs:List V):Prop:=∀ H Q,qk H0 H→(∀ v H',qk H H'→Sv K H' v xs→Q v H')→t σ H Q
inductive Kvs (K:Frag) (H:Hp):List (Key×V)→List (Str×List V)→Prop
 | nil:Kvs K H [] []
 | cons {k:Str} {v:V} {xs:List V} {kvs:List (Key×V)} {l:List (Str×List V)}:Sv K H v xs→Kvs K H kvs l→Kvs K H ((Sum.inr k,v)::kvs) ((k,xs)::l)
theorem Kvs.same {H H':Hp} (g:qk H H'):∀ {kvs:List (Key×V)} {l:List (Str×List V)},Kvs K H kvs l→Kvs K H' kvs l
 | _,_,.nil=> .nil
 | _,_,.cons s r=> .cons (s.same g) (r.same g)
theorem Kvs.upd {H:Hp} {p:Ac} {o:HO} {ks:List (Key×V)} (hp:H p=some (.dK ks)):∀ {kvs:List (Key×V)} {l:List (Str×List V)},Kvs K H kvs l→Kvs K (upd H p o) kvs l
 | _,_,.nil=> .nil
 | _,_,.cons s r=> .cons (s.upd hp) (r.upd hp)
theorem Kvs.keys {H:Hp}:∀ {kvs:List (Key×V)} {l:List (Str×List V)},Kvs K H kvs l→kvs.map (·.1)=(l.map (·.1)).map Sum.inr
 | _,_,.nil=>rfl
 | _,_,.cons _ r=>by rw [Bb,Bb,Bb,r.keys]
theorem Kvs.len {H:Hp} {kvs:List (Key×V)} {l:List (Str×List V)} (h:Kvs K H kvs l):kvs.length=l.length:=by
 have:=congrArg List.length h.keys;simpa using this
theorem Kvs.get {H:Hp} {z:Str} {x0:V} {xs0:List V} (h0:Sv K H x0 xs0):∀ {kvs:List (Key×V)} {l:List (Str×List V)},Kvs K H kvs l→Sv K H ((zL kvs (Sum.inr z)).getD x0) ((l.lookup z).getD xs0)
 | _,_,.nil=>h0
 | _,_,.cons (k:=k) (v:=v) (xs:=xs) (kvs:=kvs) (l:=l) s r=>by
  unfold zL;rw [B2,By]
  by_cases e:k=z
  ·subst e;rw [show decide ((Sum.inr k:Key)=Sum.inr k)=true from Am rfl,show (k==k)=true from Bd.mpr rfl];exact s
  ·rw [show decide ((Sum.inr k:Key)=Sum.inr z)=false from Ao fun y=>e (Ep y),show (z==k)=false from Bv.mpr fun y=>e y.symm];exact r.get h0
theorem ya:∀ {kvs acc:List (Key×V)},((acc++kvs).map (·.1)).Nodup→jb acc kvs=acc++kvs
 | [],acc,_=>by
  rw [Cj];rfl
 | kv::r,acc,h=>by
  have hn:(acc.any fun x=>decide (x.1=kv.1))=false:=by
   rw [Ci];intro z;obtain ⟨y,hy,e⟩:=Cd.mp z;rw [A6,En] at h;exact h.2.2 _ (A3.mpr ⟨y,hy,rfl⟩) _ Bi (Co e)
  have e1:qS acc kv.1 kv.2=acc++[kv]:=by
   unfold qS;rw [hn,if_neg Ak]
  show jb (qS acc kv.1 kv.2) r=_;rw [e1,ya (by rw [Du];exact h),Du]
  rfl
def Pms (K:Frag) (trs:List (TE×TE)) (σ:St) (H0:Hp) (l:List (Str×List V)):Prop:=∀ H (Q:List (V×V)→Hp→Prop),qk H0 H→(∀ kvs H',qk H H'→Kvs K H' kvs l→Q (kvs.map fun kv=>(kV kv.1,kv.2)) H')→yx trs σ H Q
section
variable {t ty tx tk ta tb:TE} {ts:TA} {σ:St} {H H0:Hp} {d:Aa} {ds:List Aa} {xs ys:List V} {z k:Str} {l:List (Str×List V)} {trs:List (TE×TE)} {i j m:Nat} {Q:VK}
theorem yO:Pms K [] σ H0 []:=fun H Q _ q=>q [] H (qk.refl _) .nil
theorem zZ (h:Ms K t σ H0 xs) (r:Pms K trs σ H0 l):Pms K ((tC (.str k),t)::trs) σ H0 ((k,xs)::l):=fun H Q g q=>h H _ g fun v H1 g1 s=>r H1 _ (g.trans g1) fun kvs H2 g2 ks=>q ((Sum.inr k,v)::kvs) H2 (g1.trans g2) (.cons (s.same g2) ks)
theorem yZ (hp:Pms K trs σ H0 l) (hn:(l.map (·.1)).Nodup) (hl:l.length≤15) (hy:Me K ty σ H0 (.str z)) (hx:Ms K tx σ H0 ys):Ms K (Xl (QW trs) ty tx) σ H0 ((l.lookup z).getD ys):=fun H Q g q p np=>by
 have g1:=qe np (.dK []);refine hp _ _ (g.trans g1) fun kvs H2 g2 ks=>⟨g2 _ _ upd_same,kvs,rfl,by rw [ks.len];exact hl,p,rfl,?_⟩
 have hd:=g2 _ _ (upd_same (H:=H) (a:=p) (o:= .dK []));have e:jb [] kvs=kvs:=ya (acc:=[]) (by
  show (kvs.map (·.1)).Nodup;rw [ks.keys];exact hn.map Sum.inr fun _ _ a b=>a (Ep b))
 rw [e];have gA:qk H (upd H2 p (.dK kvs)):=fun v u e=>by
  rw [qo (qr e np)];exact g2 _ _ (g1 _ _ e)
 have ks2:=ks.upd (o:= .dK kvs) hd;have hd2:upd H2 p (.dK kvs) p=some (.dK kvs):=upd_same;generalize upd H2 p (.dK kvs)=H3 at gA ks2 hd2 ⊢;refine ⟨.inl ⟨_,.inl hd2⟩,hy H3 _ (g.trans gA) fun y H4 g4 ry=>hx H4 _ (g.trans (gA.trans g4)) fun u H5 g5 s5=>?_⟩;cases ry;have g45:=g4.trans g5;exact ⟨_,jL.k (k:=Sum.inr z) (g45 _ _ hd2),q _ _ (gA.trans g45) (Kvs.get s5 (ks2.same g45))⟩
end
section
variable {H:Hp} {xs:List V} {ds:List Aa} {d:Aa} {x:V}
theorem zj (r:Rep K H x (.tuple ds)):∃ a xs,x= .ref a∧SqT K H a xs∧Reps K H xs ds:=by
 cases r with
 | tup h r=>exact ⟨_,_,rfl,h,r⟩
theorem jG {z:Str} (h:Reps K H xs (.str z::ds)):∃ ys,xs= .str z::ys∧Reps K H ys ds:=by
 cases h with
 | cons a r=>cases a;exact ⟨_,rfl,r⟩
theorem zz {j:Int} (h:Reps K H xs (.int j::ds)):∃ ys,xs= .int j::ys∧Reps K H ys ds:=by
 cases h with
 | cons a r=>cases a;exact ⟨_,rfl,r⟩
theorem qac (h:Reps K H xs (.none::ds)):∃ ys,xs= .non::ys∧Reps K H ys ds:=by
 cases h with
 | cons a r=>cases a;exact ⟨_,rfl,r⟩
theorem Js (h:Reps K H xs (d::ds)):∃ v ys,xs=v::ys∧Rep K H v d∧Reps K H ys ds:=by
 cases h with
 | cons a r=>exact ⟨_,_,rfl,a,r⟩
theorem jv (h:Reps K H xs []):xs=[]:=by
 cases h;rfl
theorem W1:∀ {l:List Nat} {xs:List V},Reps K H xs (l.map fun j:Nat=> .int (j:Int))→xs=l.map nV
 | [],_,h=>jv h
 | j::l,_,h=>by
  obtain ⟨ys,rfl,h2⟩:=zz h;exact congrArg (nV j:: ·) (W1 h2)
end
theorem y3 (s:Nat):∀ l:List Nat,inV (nV s) (l.map nV)=decide (s∈l)
 | []=>rfl
 | a::l=>by
  have h:=y3 s l;show (((a:Int)==(s:Int))||inV (nV s) (l.map nV))=_;rw [h,Bn,Cc,C1,C1,Bd,Av];exact or_congr ⟨fun h=>⋯,fun h=>⋯⟩ Iff.rfl
theorem V9:∀ l:List Nat,(l.map nV).all vt=true
 | []=>rfl
 | _::l=>V9 l
def Mx (t:TE) (σ:St) (H0:Hp) (v:V):Prop:=∀ H (Q:VK),qk H0 H→Q v H→t σ H Q
def Ml (t:TE) (σ:St) (H0:Hp) (xs:List V):Prop:=∀ H (Q:VK),qk H0 H→(∀ p H',qk H H'→H p=none→H' p=some (.lst xs)→Q (.ref p) H')→t σ H Q
abbrev rLs (K:Frag):List V→Hp→VK→Prop:=fun xs H Q=>∃ p ys,xs=[.ref p]∧(SqL K H p ys∨SqT K H p ys)∧∀ l,H l=none→Q (.ref l) (upd H l (.lst ys))
section
variable {t ta tb:TE} {σ:St} {H H0:Hp} {xs ys:List V} {v u:V} {a:Ac} {i k l:Nat} {D:Ends} {Q:VK} {z:Str}
theorem jM (e:σ[i]?=some (some (.ref a))) (h:SqT K H0 a xs) (hk:xs[k]?=some v):Mx (tOp (rIx K) (qG i) (tC (.int (k:Nat)))) σ H0 v:=fun H Q g q=>⟨_,e,.inr (.inl ⟨a,xs,(k:Nat),v,rfl,rfl,g.sqT h,zT hk,q⟩)⟩
theorem Mx.go (h:Mx t σ H v) (q:Q v H):t σ H Q:=h H Q (qk.refl _) q
theorem Mx.me (h:Mx t σ H0 (.str z)):Me K t σ H0 (.str z):=fun H Q g q=>h H Q g (q _ H (qk.refl _) (.str z))
theorem qio:Ml (v0 zu) σ H0 []:=fun H Q _ q=>⟨(O0:0≤Af),fun p hp=>q p _ (qe hp _) hp upd_same⟩
theorem qdn (h:Mx t σ H0 v):Ml (v0 (qw t zu)) σ H0 [v]:=fun H Q g q=>h H _ g ⟨(O0:1≤Af),fun p hp=>q p _ (qe hp _) hp upd_same⟩
theorem ml_2 (h:Mx ta σ H0 v) (h':Mx tb σ H0 u):Ml (v0 (qw ta (qw tb zu))) σ H0 [v,u]:=fun H Q g q=>h H _ g (h' H _ g ⟨(O0:2≤Af),fun p hp=>q p _ (qe hp _) hp upd_same⟩)
theorem Ml.ms (h:Ml t σ H0 xs):Ms K t σ H0 xs:=fun H Q g q=>h H Q g fun p H' g' _ hp=>q _ H' g' ⟨p,rfl,.inl (SqL.of hp)⟩
theorem qe3:Ms K (VL zu) σ H0 []:=fun H Q _ q=>⟨(O0:0≤Af),fun p hp=>q _ _ (qe hp _) ⟨p,rfl,.inr (SqT.of upd_same)⟩⟩
theorem Zr (h:Ms K t σ H0 xs):Ml (tCB (rLs K) (qw t zu)) σ H0 xs:=fun H Q g q=>h H _ g fun v H1 g1 s=>by
 obtain ⟨p,rfl,hs⟩:=s;exact ⟨p,xs,rfl,hs,fun l hl=>q l _ (g1.trans (qe hl _)) (g1.free hl) upd_same⟩
theorem qgc (h:Ml ta σ H0 xs) (h':Ml tb σ H0 ys) (hl:xs.length+ys.length≤Af):Ml (tOp JP ta tb) σ H0 (xs++ys):=fun H Q g q=>h H _ g fun p H1 g1 _ hp=>h' H1 _ (g.trans g1) fun p2 H2 g2 _ hp2=>XX (g2 _ _ hp) hp2 hl fun p3 hp3=>q p3 _ (g1.trans (g2.trans (qe hp3 _))) ((g1.trans g2).free hp3) upd_same
theorem vb (e:σ[i]?=some (some (.ref a))) (h:SqT K H0 a xs):Ms K (tSl (qc0 K) (qG i) (wP (tC (.int (k:Nat)))) (wP (tC (.int (l:Nat))))) σ H0 ((xs.drop k).take (l - k)):=fun H Q g q=>⟨_,e,_,rfl,_,rfl,a,xs,rfl,g.sqT h,fun c H2 g2 hc=>q _ _ g2 ⟨c,rfl,.inr (by rw [qd5] at hc;exact hc)⟩⟩
theorem qdm (e:σ[i]?=some (some (.ref a))) (h:SqT K H0 a xs):Ms K (tSl (qc0 K) (qG i) (wP (tC (.int (k:Nat)))) Vr) σ H0 (xs.drop k):=fun H Q g q=>⟨_,e,_,rfl,a,xs,rfl,g.sqT h,fun c H2 g2 hc=>q _ _ g2 ⟨c,rfl,.inr (by rw [qb3] at hc;exact hc)⟩⟩
theorem Ms.ret (h:Ms K t σ H xs) (q:∀ v H',qk H H'→Sv K H' v xs→D.rt v H'):Xk t D σ H:=h H D.rt (qk.refl _) q
theorem qin (h:Ms K t σ H0 xs) (e:xs=ys):Ms K t σ H0 ys:=e▸h
end
def qhq (K:Frag):Sp:=fun vs H Q _=>∃ x d rd wr,vs=[x]∧Rep K H x d∧Cod.RowV d rd wr∧∀ v H',qk H H'→Sv K H' v (rd.map nV)→Q v H'
theorem V1 (F:Fun K "_law_row_reads" "_law_row_reads" Jd f fd) (c:Cs K mg ad):FnOk P w K mg base CX0 1 f fd ["_law_row"] (qhq K):=by
 refine F.ok VO (fun vs H Q E h=>?_) (fun cdv A outer s H vs Q E hr h=>?_)
 ·obtain ⟨x,d,rd,wr,rfl,_⟩:=h;rfl
 obtain ⟨x,d,rd,wr,rfl,rx,rv,q⟩:=h;have hu:=wo hr;refine ⟨_,(qg (qm (Wc hu (vW (zl qj (qT (qa (pix K (pv 0) qc) qb)) (zl qj (zr (Wn (K:=K) rfl) (by rfl) c.list_ wK (qa (qZ (wS (K:=K) rfl) (pv 0) (qI qc) Jl) qb)) vU)) rfl rfl (by intro z;cases z) O0) (pix K (pv 0) qc) (qT qb) ⟨rfl,rfl,rfl,rfl⟩))),?_⟩
 clear hu hr;have key:∀ {a:Ac} {xs:List V} {z:Str} {v2:V} (h:SqT K H a xs) (h0:xs[0]?=some (.str z)) (h2:xs[2]?=some v2),x= .ref a→((([("write",[v2]),("two",xs.drop 3)]:List (Str×List V)).lookup z).getD []=rd.map nV)→Xk (Xl (QW [(tC (.str "write"),v0 (qw (tOp (rIx K) (qG 0) (tC (.int 2))) zu)),(tC (.str "two"),tCB (rLs K) (qw (tSl (qc0 K) (qG 0) (wP (tC (.int 3))) Vr) zu))]) (tOp (rIx K) (qG 0) (tC (.int 0))) (v0 zu)) {nx:=fun _ H'=>Q .non H',rt:=Q} [some x] H:=fun {a xs z v2} h h0 h2 ex e=>by
  subst ex;exact (qin (yZ (zZ (qdn (jM (i:=0) (k:=2) rfl h h2)).ms (zZ (Zr (qdm (i:=0) (k:=3) rfl h)).ms yO)) (O0:(["write","two"]:List Str).Nodup) (O0:2≤15) (jM (i:=0) (k:=0) rfl h h0).me qio.ms) e).ret fun v H' g s=>q v H' g s
 cases rv with
 | one hz=>
  obtain ⟨a,xs,rfl,hx,r0⟩:=zj rx;obtain ⟨ys,rfl,r1⟩:=jG r0;obtain ⟨ys,rfl,r2⟩:=zz r1;obtain ⟨v2,ys,rfl,_,r3⟩:=Js r2;cases jv r3;refine key hx rfl rfl rfl ?_;rcases hz with rfl | rfl | rfl <;> rfl
 | write=>
  obtain ⟨a,xs,rfl,hx,r0⟩:=zj rx;obtain ⟨ys,rfl,r1⟩:=jG r0;obtain ⟨v1,ys,rfl,_,r2⟩:=Js r1;obtain ⟨ys,rfl,r3⟩:=zz r2;cases jv r3;exact key hx rfl rfl rfl rfl
 | two=>
  obtain ⟨a,xs,rfl,hx,r0⟩:=zj rx;obtain ⟨ys,rfl,r1⟩:=jG r0;obtain ⟨ys,rfl,r2⟩:=zz r1;obtain ⟨v2,ys,rfl,_,r3⟩:=Js r2;obtain ⟨ys,rfl,r4⟩:=zz r3;obtain ⟨ys,rfl,r5⟩:=zz r4;cases jv r5;exact key hx rfl rfl rfl rfl
def erL (xs:List V):List (Str×List V):=[("if",(xs.drop 1).take 1),("hand",(xs.drop 1).take 1),("back",(xs.drop 1).take 1),("step",(xs.drop 2).take 1),("fault",(xs.drop 2).take 1)]
def goL (xs:List V):List (Str×List V):=[("go",(xs.drop 1).take 1),("while",(xs.drop 1).take 1),("if",(xs.drop 2).take 2),("hand",(xs.drop 2).take 1)]
structure EndX (K:Frag) (H:Hp) (a:Ac) (z:Str) (xs:List V) (rd wr st:List Nat):Prop where
 sq:SqT K H a xs
 h0:xs[0]?=some (.str z)
 rd:(z="call"∧∃ v2 b ys,xs[2]?=some v2∧xs[3]?=some (.ref b)∧SqT K H b ys∧ys.length≤1000∧v2::ys=rd.map nV)∨(z≠"call"∧(((erL xs).lookup z).getD []=rd.map nV∨(rd=[]∧((erL xs).lookup z).getD []=[.non])))
 go:(z="call"∧∃ s t,xs[1]?=some (nV s)∧xs[4]?=some (nV t)∧wr=[s]∧st=[t])∨(z="step"∧∃ s t u,xs[1]?=some (nV s)∧xs[3]?=some (nV t)∧xs[4]?=some (nV u)∧wr=[s]∧st=[t,u])∨(z≠"call"∧z≠"step"∧wr=[]∧((goL xs).lookup z).getD []=st.map nV)
theorem qe6 {H:Hp} {x:V} {d:Aa} {rd wr st:List Nat} (ev:Cod.EndV d rd wr st) (rx:Rep K H x d) (hl:rd.length≤1000:=As ev.len O0):∃ a z xs,x= .ref a∧EndX K H a z xs rd wr st:=by
 cases ev with
 | go hz=>
  obtain ⟨a,xs,rfl,hx,r0⟩:=zj rx;obtain ⟨_,rfl,r1⟩:=jG r0;obtain ⟨_,rfl,r2⟩:=zz r1;cases jv r2;rcases hz with rfl | rfl <;> exact ⟨a,_,_,rfl,hx,rfl,.inr ⟨O0,.inl rfl⟩,.inr (.inr ⟨O0,O0,rfl,rfl⟩)⟩
 | iff=>
  obtain ⟨a,xs,rfl,hx,r0⟩:=zj rx;obtain ⟨_,rfl,r1⟩:=jG r0;obtain ⟨_,rfl,r2⟩:=zz r1;obtain ⟨_,rfl,r3⟩:=zz r2;obtain ⟨_,rfl,r4⟩:=zz r3;cases jv r4;exact ⟨a,_,_,rfl,hx,rfl,.inr ⟨O0,.inl rfl⟩,.inr (.inr ⟨O0,O0,rfl,rfl⟩)⟩
 | call _=>
  obtain ⟨a,xs,rfl,hx,r0⟩:=zj rx;obtain ⟨_,rfl,r1⟩:=jG r0;obtain ⟨_,rfl,r2⟩:=zz r1;obtain ⟨_,rfl,r3⟩:=zz r2;obtain ⟨v3,_,rfl,rt,r4⟩:=Js r3;obtain ⟨_,rfl,r5⟩:=zz r4;cases jv r5;obtain ⟨b,ys,rfl,hb,rb⟩:=zj rt;cases W1 rb;exact ⟨a,_,_,rfl,hx,rfl,.inl ⟨rfl,_,b,_,rfl,rfl,hb,by rw [Aj];rw [Bj] at hl;omega,rfl⟩,.inl ⟨rfl,_,_,rfl,rfl,rfl,rfl⟩⟩
 | step=>
  obtain ⟨a,xs,rfl,hx,r0⟩:=zj rx;obtain ⟨_,rfl,r1⟩:=jG r0;obtain ⟨_,rfl,r2⟩:=zz r1;obtain ⟨_,rfl,r3⟩:=zz r2;obtain ⟨_,rfl,r4⟩:=zz r3;obtain ⟨_,rfl,r5⟩:=zz r4;cases jv r5;exact ⟨a,_,_,rfl,hx,rfl,.inr ⟨O0,.inl rfl⟩,.inr (.inl ⟨rfl,_,_,_,rfl,rfl,rfl,rfl,rfl⟩)⟩
 | hand=>
  obtain ⟨a,xs,rfl,hx,r0⟩:=zj rx;obtain ⟨_,rfl,r1⟩:=jG r0;obtain ⟨_,rfl,r2⟩:=zz r1;obtain ⟨_,rfl,r3⟩:=zz r2;cases jv r3;exact ⟨a,_,_,rfl,hx,rfl,.inr ⟨O0,.inl rfl⟩,.inr (.inr ⟨O0,O0,rfl,rfl⟩)⟩
 | back=>
  obtain ⟨a,xs,rfl,hx,r0⟩:=zj rx;obtain ⟨_,rfl,r1⟩:=jG r0;obtain ⟨_,rfl,r2⟩:=zz r1;cases jv r2;exact ⟨a,_,_,rfl,hx,rfl,.inr ⟨O0,.inl rfl⟩,.inr (.inr ⟨O0,O0,rfl,rfl⟩)⟩
 | none=>
  obtain ⟨a,xs,rfl,hx,r0⟩:=zj rx;obtain ⟨_,rfl,r1⟩:=jG r0;obtain ⟨_,rfl,r2⟩:=qac r1;cases jv r2;exact ⟨a,_,_,rfl,hx,rfl,.inr ⟨O0,.inr ⟨rfl,rfl⟩⟩,.inr (.inr ⟨O0,O0,rfl,rfl⟩)⟩
 | fault=>
  obtain ⟨a,xs,rfl,hx,r0⟩:=zj rx;obtain ⟨_,rfl,r1⟩:=jG r0;obtain ⟨_,_,rfl,_,r2⟩:=Js r1;obtain ⟨_,rfl,r3⟩:=zz r2;cases jv r3;exact ⟨a,_,_,rfl,hx,rfl,.inr ⟨O0,.inl rfl⟩,.inr (.inr ⟨O0,O0,rfl,rfl⟩)⟩
theorem Vs (a b:Str):decide (V.str a=V.str b)=decide (a=b):=Ed.mpr ⟨fun h=>V.str.inj h,fun h=>by rw [h]⟩
def qhw (K:Frag):Sp:=fun vs H Q _=>∃ x d rd wr st,vs=[x]∧Rep K H x d∧Cod.EndV d rd wr st∧rd.length≤1000∧∀ v ys H',qk H H'→Sv K H' v ys→(ys=rd.map nV∨(rd=[]∧ys=[.non]))→Q v H'
theorem V2 (F:Fun K "_law_end_reads" "_law_end_reads" Je f fd) (c:Cs K mg ad):FnOk P w K mg base CX0 1 f fd ["_law_end"] (qhw K):=by
 refine F.ok VP (fun vs H Q E h=>?_) (fun cdv A outer s H vs Q E hr h=>?_)
 ·obtain ⟨x,d,rd,wr,st,rfl,_⟩:=h;rfl
 obtain ⟨x,d,rd,wr,st,rfl,rx,ev,hl,q⟩:=h;have hu:=wo hr;refine ⟨_,(qf (qF (qu ze (pix K (pv 0) qc) qj (qq _)) (qg (qm (qH zk (qT (qa (pix K (pv 0) qc) qb)) (zr (Wn (K:=K) rfl) (by rfl) c.list_ wK (qa (pix K (pv 0) qc) qb))))) qv)
   (qg (qm (Wc hu (vW (zl qj (qZ (wS (K:=K) rfl) (pv 0) (qI qc) (qI qc)) (zl qj (qZ (wS (K:=K) rfl) (pv 0) (qI qc) (qI qc)) (zl qj (qZ (wS (K:=K) rfl) (pv 0) (qI qc) (qI qc)) (zl qj (qZ (wS (K:=K) rfl) (pv 0) (qI qc) (qI qc)) (zl qj (qZ (wS (K:=K) rfl) (pv 0) (qI qc) (qI qc)) vU))))) rfl rfl (by intro z;cases z) O0) (pix K (pv 0) qc) (qi qb) ⟨rfl,rfl,rfl,rfl⟩)))),?_⟩
 clear hu hr;obtain ⟨a,z,xs,rfl,ex⟩:=qe6 ev rx hl;have hx:=ex.sq;have h0:=ex.h0;refine jB fun D1 n1 r1=>vx fun B b1 b2=>(jM (i:=0) (k:=0) rfl hx h0).go ?_;refine ⟨rfl,_,rfl,?_⟩;rw [Vs];rcases ex.rd with ⟨rfl,v2,b,ys,h2,h3,hb,hy,e⟩ | ⟨hz,e⟩
 ·refine bP (Am rfl) (b1 _ ?_);refine (qgc (xs:=[v2]) (ys:=ys) (qdn (jM (i:=0) (k:=2) rfl hx h2)) (Zr fun H1 Q1 g1 q1=>jM (i:=0) (k:=3) rfl hx h3 H1 _ g1 (q1 _ _ (qk.refl _) ⟨b,rfl,.inr (g1.sqT hb)⟩)) ?_).ms.ret (K:=K) fun v H' g sv=>r1 _ _ (q v _ H' g sv (.inl e));exact As (show 1+ys.length≤1001 from ⋯) O0
 ·refine bN (Ao hz) (b2 _ (n1 _ _ ?_));have m:=yZ (σ:=[some (.ref a)]) (z:=z) (l:=erL xs) (zZ (vb (K:=K) (i:=0) (k:=1) (l:=2) rfl hx) (zZ (vb (i:=0) (k:=1) (l:=2) rfl hx) (zZ (vb (i:=0) (k:=1) (l:=2) rfl hx) (zZ (vb (i:=0) (k:=2) (l:=3) rfl hx) (zZ (vb (i:=0) (k:=2) (l:=3) rfl hx) yO))))) (O0:(["if","hand","back","step","fault"]:List Str).Nodup) (O0:5≤15) (jM (i:=0) (k:=0) rfl hx h0).me qe3;exact m.ret fun v H' g sv=>q v _ H' g sv e
def qhv (K:Frag):Sp:=fun vs H Q _=>∃ x d rd wr st,∃ s:Nat,vs=[x,nV s]∧Rep K H x d∧Cod.EndV d rd wr st∧rd.length≤1000∧∀ v H',qk H H'→Sv K H' v ((Cod.goesOf wr st s).map nV)→Q v H'
theorem YH (F:Fun K "_law_goes" "_law_goes" Vb f fd) (c:Cs K mg ad):FnOk P w K mg base CX0 1 f fd ["_law_end","_law_slot"] (qhv K):=by
 refine F.ok Ys (fun vs H Q E h=>?_) (fun cdv A outer s H vs Q E hr h=>?_)
 ·obtain ⟨x,d,rd,wr,st,k,rfl,_⟩:=h;rfl
 obtain ⟨x,d,rd,wr,st,sl,rfl,rx,ev,hl,q⟩:=h;have hu:=wo hr;refine ⟨_,(qf (qF (qu ze (pix K (pv 0) qc) qj (qq _)) (qg (qm (Wb (qu ze (pix K (pv 0) qc) (pv 1) (qq _)) (qT qb) (qT (qa (pix K (pv 0) qc) qb))))) qv)
   (qf (qF (qu ze (pix K (pv 0) qc) qj (qq _)) (qg (qm (Wb (qu ze (pix K (pv 0) qc) (pv 1) (qq _)) (qT (qa (pix K (pv 0) qc) qb)) (qT (qa (pix K (pv 0) qc) (qa (pix K (pv 0) qc) qb)))))) qv)
   (qg (qm (Wc hu (vW (zl qj (qZ (wS (K:=K) rfl) (pv 0) (qI qc) (qI qc)) (zl qj (qZ (wS (K:=K) rfl) (pv 0) (qI qc) (qI qc)) (zl qj (qZ (wS (K:=K) rfl) (pv 0) (qI qc) (qI qc)) (zl qj (qZ (wS (K:=K) rfl) (pv 0) (qI qc) (qI qc)) vU)))) rfl rfl (by intro z;cases z) O0) (pix K (pv 0) qc) (qi qb) ⟨rfl,rfl,rfl,rfl⟩))))),?_⟩
 clear hu hr;obtain ⟨a,z,xs,rfl,ex⟩:=qe6 ev rx hl;have hx:=ex.sq;have h0:=ex.h0;have one:∀ s:Nat,decide (nV s=nV sl)=decide (sl∈[s]):=fun s=>Ed.mpr ⟨fun h=>by have:=V.int.inj h;simp;omega,fun h=>by rw [Ay.mp h]⟩
 refine jB fun D1 n1 r1=>vx fun B b1 b2=>(jM (i:=0) (k:=0) rfl hx h0).go ?_;refine ⟨rfl,_,rfl,?_⟩;rw [Vs];rcases ex.go with ⟨rfl,s,t,h1,h4,rfl,rfl⟩ | ⟨rfl,s,t,u,h1,h3,h4,rfl,rfl⟩ | ⟨hz,hz2,rfl,e⟩
 ·refine bP (Am rfl) (b1 _ ?_);refine (jM (i:=0) (k:=1) rfl hx h1).go ⟨_,rfl,rfl,_,rfl,?_⟩;rw [one]
  by_cases hm:sl∈[s]
  ·refine jx (Am hm) ?_;exact (qio.ms (K:=K)) H _ (qk.refl _) fun v H' g sv=>r1 _ _ (q v H' g (by rw [Cod.goesOf,if_pos hm];exact sv))
  ·refine jo (Ao hm) ?_;exact ((qdn (jM (i:=0) (k:=4) rfl hx h4)).ms (K:=K)) H _ (qk.refl _) fun v H' g sv=>r1 _ _ (q v H' g (by rw [Cod.goesOf,if_neg hm];exact sv))
 ·refine bN (Ao O0) (b2 _ (n1 _ _ ?_));clear b1 b2 B n1 r1 D1;refine jB fun D1 n1 r1=>vx fun B b1 b2=>(jM (i:=0) (k:=0) rfl hx h0).go ⟨rfl,_,rfl,?_⟩;rw [Vs];refine bP (Am rfl) (b1 _ ?_);refine (jM (i:=0) (k:=1) rfl hx h1).go ⟨_,rfl,rfl,_,rfl,?_⟩;rw [one]
  by_cases hm:sl∈[s]
  ·refine jx (Am hm) ?_;exact ((qdn (jM (i:=0) (k:=4) rfl hx h4)).ms (K:=K)) H _ (qk.refl _) fun v H' g sv=>r1 _ _ (q v H' g (by rw [Cod.goesOf,if_pos hm];exact sv))
  ·refine jo (Ao hm) ?_;exact ((ml_2 (jM (i:=0) (k:=3) rfl hx h3) (jM (i:=0) (k:=4) rfl hx h4)).ms (K:=K)) H _ (qk.refl _) fun v H' g sv=>r1 _ _ (q v H' g (by rw [Cod.goesOf,if_neg hm];exact sv))
 ·refine bN (Ao hz) (b2 _ (n1 _ _ ?_));clear b1 b2 B n1 r1 D1;refine jB fun D1 n1 r1=>vx fun B b1 b2=>(jM (i:=0) (k:=0) rfl hx h0).go ⟨rfl,_,rfl,?_⟩;rw [Vs];refine bN (Ao hz2) (b2 _ (n1 _ _ ?_));have m:=yZ (σ:=[some (.ref a),some (nV sl)]) (z:=z) (l:=goL xs) (zZ (vb (K:=K) (i:=0) (k:=1) (l:=2) rfl hx) (zZ (vb (i:=0) (k:=1) (l:=2) rfl hx) (zZ (vb (i:=0) (k:=2) (l:=4) rfl hx) (zZ (vb (i:=0) (k:=2) (l:=3) rfl hx) yO)))) (O0:(["go","while","if","hand"]:List Str).Nodup) (O0:4≤15) (jM (i:=0) (k:=0) rfl hx h0).me qe3;exact m.ret fun v H' g sv=>q v H' g (by rw [Cod.goesOf,if_neg (by simp),← e];exact sv)
def qfi (K:Frag):Sp:=fun vs H Q _=>∃ x sts W,∃ s:Nat,vs=[x,nV s]∧Rep K H x (.tuple sts)∧sts.length≤2000∧(∀ d∈sts,Cod.StW d)∧Cod.Pok (sts.map Cod.qW) W∧∀ (b:Bool) H',qk H H'→(b=true↔Cod.UnW (sts.map Cod.qW) s)→Q (.bl b) H'
structure Un (K:Frag) (H H':Hp) (D L:Ac) (ps:Cod.Psg) (s:Nat) (S W:List Nat) (x:Option Nat):Prop where
 g:qk H H'
 nD:H D=none
 nL:H L=none
 d:H' D=some (.dK (kvB S))
 l:H' L=some (.lst (W.map nV))
 sr:Cod.Sr ps s S W x
section
variable {H H' H2:Hp} {D L:Ac} {ps:Cod.Psg} {s k t:Nat} {S W:List Nat} {x:Option Nat}
theorem Un.same (g:qk H' H2) (h:Un K H H' D L ps s S W x):Un K H H2 D L ps s S W x:=⟨h.g.trans g,h.nD,h.nL,g _ _ h.d,g _ _ h.l,h.sr⟩
theorem Un.ne (h:Un K H H' D L ps s S W x):D≠L:=fun z=>by
 have e:=h.d;rw [z,h.l] at e;cases e
theorem Un.pop (h:Un K H H' D L ps s S (W++[k]) none):Un K H (upd H' L (.lst (W.map nV))) D L ps s S W (some k):=⟨zy h.g h.nL,h.nD,h.nL,by rw [qo h.ne];exact h.d,upd_same,h.sr.pop⟩
theorem Un.add (h:Un K H H' D L ps s S W x) (hw:Cod.NotWr ps s t) (hl:t<ps.length) (hn:t∉S):Un K H (upd (upd H' D (.dK (qS (kvB S) (Sum.inl (t:Int)) (.bl true)))) L (.lst (W.map nV++[nV t]))) D L ps s (S++[t]) (W++[t]) x:=⟨zy (zy h.g h.nD) h.nL,h.nD,h.nL,by
 rw [qo h.ne,upd_same,qez,if_neg hn],by
 rw [upd_same,A6];rfl,h.sr.add hw hl hn⟩
theorem Un.shut (h:Un K H H' D L ps s S W (some k)) (hc:Cod.Cld ps s S k):Un K H H' D L ps s S W none:=⟨h.g,h.nD,h.nL,h.d,h.l,h.sr.shut hc⟩
end
theorem qhi (l:List Nat) (k:Nat):(zL (kvB l) (Sum.inl (k:Int))).isSome=decide (k∈l):=by
 unfold zL kvB;rw [List.find?_map];have e:((fun kv:Key×V=>decide (kv.1=Sum.inl (k:Int))) ∘ fun j:Nat=>((Sum.inl (j:Int):Key),V.bl true))=fun j=>j==k:=funext fun p=>y2 _ _;rw [e,Dv,Dv,Bn,List.find?_isSome,C1];exact ⟨fun ⟨x,h,z⟩=>Bd.mp z▸h,fun h=>⟨k,h,Bd.mpr rfl⟩⟩
theorem J6 {H:Hp}:∀ l:List Nat,Reps K H (l.map nV) (l.map fun j:Nat=> .int (j:Int))
 | []=> .nil
 | j::l=> .cons (.int (j:Int)) (J6 l)
theorem qee {x:V} {cts:List Aa} {σ:St} {H:Hp} {i j:Nat} {r:TS} {D:Ends} (e:σ[i]?=some (some x)) (rx:Rep K H x (.tuple cts)) (hc:∀ c∈cts,∃ a b,∃ j:Nat,c= .tuple [a,b,.int (j:Nat)]) (hl:cts.length≤20)
  (q:∀ H' p,qk H H'→H p=none→H' p=some (.lst ((cts.map Cod.qb4).map nV))→r D (σ.set j (some (.ref p))) H'):
  Jn (VM (X4 (y6 K (qG i)) [none] (qC 0) Jw (tOp (rIx K) (qG 0) (tC (.int 2)))) (qC j)) r D σ H:=by
 cases rx with
 | @tup a xs _ hq hs=>
  have hlen:=hs.length;refine ⟨_,e,.inr (.inl ⟨_,rfl,⟨_,hq⟩,zd cts.length (fun i ys H'=>qk H H'∧ys=((cts.take i).map Cod.qb4).map nV) ⟨qk.refl _,rfl⟩ (fun i ys H' h=>?_) (As hl O0) (fun i ys H' hi h=>?_) (fun ys H' h=>?_)⟩)⟩
  ·rw [h.2,Aj,Aj];exact Bw _ _
  ·obtain ⟨g,rfl⟩:=h;have hx:xs[i]?=some xs[i]:=Ah ⋯;refine ⟨⟨xs,_,g.sqT hq,hx⟩,fun v H2 yl=>?_⟩;obtain ⟨rfl,hv⟩:=yl;have e:=hx.symm.trans (hv xs (g.sqT hq));cases e;obtain ⟨d,hd,rd⟩:=hs.get hx;obtain ⟨d1,d2,j,rfl⟩:=hc d (A0 hd);refine ⟨_,rfl,ixr (i:=2) (rd.same g) rfl fun u ru=>?_⟩;cases ru;refine ⟨g,?_⟩;rw [Bl,hd,A6,A6];rfl
  ·obtain ⟨g,rfl⟩:=h;rw [Bp];exact ⟨⟨_,g.sqT hq,⋯⟩,fun p hp=>q _ p (g.trans (qe hp _)) (g.free hp) upd_same⟩
theorem qhz {v:V} {i:Nat} {r:TS} {D:Ends} {σ:St} {H:Hp} (h:r D (σ.set i (some v)) H):Jn (VM (tC v) (qC i)) r D σ H:=h
theorem qh1 {H:Hp} {x:V} {d:Aa} {rd wr:List Nat} (rv:Cod.RowV d rd wr) (rx:Rep K H x d):∃ (a:Ac) (z:Str) (xs:List V),x= .ref a∧SqT K H a xs∧xs[0]?=some (.str z)∧((z="write"∧wr=[])∨(z≠"write"∧∃ s:Nat,xs[1]?=some (nV s)∧wr=[s])):=by
 cases rv with
 | one hz=>
  obtain ⟨a,xs,rfl,hx,r0⟩:=zj rx;obtain ⟨_,rfl,r1⟩:=jG r0;obtain ⟨_,rfl,r2⟩:=zz r1;exact ⟨a,_,_,rfl,hx,rfl,.inr ⟨by rcases hz with rfl | rfl | rfl <;> decide,_,rfl,rfl⟩⟩
 | write=>
  obtain ⟨a,xs,rfl,hx,r0⟩:=zj rx;obtain ⟨_,rfl,r1⟩:=jG r0;exact ⟨a,_,_,rfl,hx,rfl,.inl ⟨rfl,rfl⟩⟩
 | two=>
  obtain ⟨a,xs,rfl,hx,r0⟩:=zj rx;obtain ⟨_,rfl,r1⟩:=jG r0;obtain ⟨_,rfl,r2⟩:=zz r1;exact ⟨a,_,_,rfl,hx,rfl,.inr ⟨O0,_,rfl,rfl⟩⟩
theorem qdj (s t:Nat):decide (nV s=nV t)=decide (t∈[s]):=Ed.mpr ⟨fun h=>by have:=V.int.inj h;simp;omega,fun h=>by rw [Ay.mp h]⟩
theorem qfq {σ:St} {H:Hp} {i j k:Nat} {x:V} {d:Aa} {rd wr:List Nat} {s:Nat} {b:Bool} {Q:VK} (rv:Cod.RowV d rd wr) (rx:Rep K H x d) (e1:σ[i]?=some (some (.bl b))) (e2:σ[j]?=some (some x)) (e3:σ[k]?=some (some (nV s))) (q:Q (.bl (b||decide (s∈wr))) H):
  qfe (qG i) (X5 (tOp rNe (tOp (rIx K) (qG j) (tC (.int 0))) (tC (.str "write"))) (tOp rEq (tOp (rIx K) (qG j) (tC (.int 1))) (qG k))) σ H Q:=by
 obtain ⟨a,z,xs,rfl,hx,h0,h1⟩:=qh1 rv rx;refine ⟨_,e1,b,rfl,?_⟩;cases b with
 | true=>exact jk q
 | false=>
  refine JT ((jM (i:=j) (k:=0) e2 hx h0).go ⟨rfl,_,rfl,?_⟩);rw [Vs];rcases h1 with ⟨rfl,rfl⟩ | ⟨hz,s',h1,rfl⟩
  ·refine jo O0 ?_;exact q
  ·refine jx (by rw [Ao hz];rfl) ((jM (i:=j) (k:=1) e2 hx h1).go ⟨_,e3,rfl,?_⟩)
   rw [qdj];exact q
theorem V0 (F:Fun K "_law_unwritten" "_law_unwritten" jq f fd) (c:Cs K mg ad) (d_law_row_reads:Def P w K mg base 1 "_law_row_reads" ["_law_row"] (qhq K)) (d_law_end_reads:Def P w K mg base 1 "_law_end_reads" ["_law_end"] (qhw K)) (d_law_goes:Def P w K mg base 1 "_law_goes" ["_law_end","_law_slot"] (qhv K)):FnOk P w K mg base CX0 2 f fd ["_law_states","_law_slot"] (qfi K):=by
 refine F.ok qD (fun vs H Q E h=>?_) (fun cdv A outer s H vs Q E hr h=>?_)
 ·obtain ⟨x,sts,W,k,rfl,_⟩:=h;rfl
 obtain ⟨x,sts,WW,sl,rfl,rx,h2000,stw,pok,q⟩:=h;have hu:=wo hr;have hu64:=vA hr;refine ⟨_,(qf (pst 2 qD.nd (vW (zl qc zJ vU) rfl rfl (by intro z;cases z) O0))
   (qf (pst 3 qD.nd (qT (qa qc qb)))
   (qf (YE Bt (qu (Wl (K:=K) rfl hu64) (pv 3) (qT qb) (qq _)) (qf (wY (pix K (pv 0) (qi9 (K:=K) rfl Bu PySem.F.slot_list_pop PySem.F.type_list_pop qgb (pv 3))) (vq (K:=K) (n:=3) rfl rfl (qM (pgn 4 qD.nd) (qM (pgn 5 qD.nd) (qM (pgn 6 qD.nd) jr)))))
   (qf (Jk (i:=7) qD.nd rfl (by first | exact Or.inl rfl | exact Or.inr rfl) (sc:=qh jq) (NX:=["_law_states","_law_slot","_law_seen","_law_waiting","_law_rows","_law_end","_law_catches","_law_ways","_law_written","_law_row","_law_at"]) (N:=["_law_catch"]) (js:=[none]) (Jx (K:=K) rfl (pv 6)) (fun _ _ _ _ _=>(qx (i:=0) (show (["_law_catch"]:List Str).Nodup from ∅) rfl (Or.inl rfl))) (fun _ _ _ _ _=>zn) (fun _ _ _ _ _=>(pix K (pv 0) qc)) (qB rfl) ⟨∅,rfl,∅,∅,rfl,∅⟩)
   (qf (pst 8 qD.nd zJ)
   (qf (ji Bt rfl (Jx (K:=K) rfl (pv 4)) (pgn 9 qD.nd) (qf (qF (PW.pt (VS (zo (zh (pv 8))) (vS (qu (XQ (K:=K) rfl) (pv 1) (pdf d_law_row_reads (qa (pv 9) qb)) rfl)))) (qg (qm zJ)) qv)
   (qg (pst 8 qD.nd (Zg (pv 8) (zp (zC (zb VA (pix K (pv 9) qc) qj (qq _)) (zp (zb ze (pix K (pv 9) qc) (pv 1) (qq _))))))))))
   (qf (qF (zo (zh (pv 8))) (qf (qF (qu (XQ (K:=K) rfl) (pv 1) (pdf d_law_end_reads (qa (pv 5) qb)) rfl) (qg (qm zJ)) qv)
   (qg (pst 7 qD.nd (qH zk (pv 7) (zr (Wn (K:=K) rfl) (by rfl) c.list_ wK (qa (pdf d_law_goes (qa (pv 5) (qa (pv 1) qb))) qb)))))) qv)
   (qg (ji Bt rfl (Jx (K:=K) rfl (pv 7)) (pgn 10 qD.nd) (qg (qF (Xv (W5 hu (pv 10) (pv 2))) (qf (vT hu (pv 2) (pv 10) zJ rfl)
   (qg (je (WF (K:=K) rfl Bu B6 B5 jg (pv 3) (qa (pv 10) qb))))) qv))))))))))
   (qg (qm zJ))))),?_⟩
 clear hu hr hu64;refine fun D hD=>⟨upd_same,[(Sum.inl 0,.bl true)],rfl,O0,?_⟩;refine ⟨(O0:1≤Af),fun L hL=>?_⟩;have pl:(sts.map Cod.qW).length=sts.length:=Aj ..;have u0:Un K H (upd (upd (upd H D (.dK [])) D (.dK (jb [] [(Sum.inl 0,.bl true)]))) L (.lst [.int 0])) D L (sts.map Cod.qW) sl [0] [0] none:=by
  have g1:qk H (upd (upd H D (.dK [])) D (.dK (jb [] [(Sum.inl 0,.bl true)]))):=zy (zy (qk.refl _) hD) hD;exact ⟨g1.trans (qe hL _),hD,g1.free hL,(qe hL _) _ _ upd_same,upd_same,Cod.qcq pok.ne⟩
 generalize upd (upd (upd H D (.dK [])) D (.dK (jb [] [(Sum.inl 0,.bl true)]))) L (.lst [.int 0])=H1 at u0 ⊢;dsimp only [qC,List.set];refine ⟨fun m σ H'=>∃ S W o4 o5 o6 o7 o8 o9 o10,Un K H H' D L (sts.map Cod.qW) sl S W none∧m=2*(sts.length - S.length)+W.length∧m≤4000∧σ=[some x,some (nV sl),some (.ref D),some (.ref L),o4,o5,o6,o7,o8,o9,o10],⟨_,[0],[0],none,none,none,none,none,none,none,u0,rfl,(by show 2*(sts.length - 1)+1≤4000;have:=pok.ne;omega),rfl⟩,?_⟩
 rintro m σ H' ⟨S,W,o4,o5,o6,o7,o8,o9,o10,un,rfl,m4,rfl⟩;refine Wk (i:=3) (ds:=W.map fun j:Nat=> .int (j:Int)) rfl ⟨_,un.l,J6 W⟩ (fun d hd=>by obtain ⟨j,_,rfl⟩:=A3.mp hd;exact Cod.Ya) fun H2 g2=>⟨_,rfl,qN (fun hw=>?_) fun hw=>?_⟩
 ·rcases List.eq_nil_or_concat W with rfl | ⟨W',k,rfl⟩
  ·cases hw
  rw [List.concat_eq_append] at un m4 ⊢;rw [Ax] at m4;have m4':2*(sts.length - S.length)+(W'.length+1)≤4000:=m4;clear m4;refine qhg fun N hN=>?_;have un2:=un.same g2;have hk:k∈S:=un2.sr.sub k (Az.mpr (.inr (Ay.mpr rfl)));have hkl:=un2.sr.lt k hk;have hkw:=un2.sr.nw k hk;rw [pl] at hkl;obtain ⟨d,hd⟩:∃ d,sts[k]?=some d:=⟨_,Ah hkl⟩;have hp:(sts.map Cod.qW)[k]?=some (Cod.qW d):=by rw [Au,hd];rfl
  obtain ⟨rows,e,cts,rfl,lr,lc,vr',ve',vc'⟩:=(stw d (A0 hd)).ex;have un3:=un2.pop;have el:(W'++[k]).map nV=W'.map nV++[nV k]:=A6 ..;refine ⟨_,rfl,_,rfl,.inl ⟨rfl,_,SqL.of un2.l⟩,L,_,nV k,rfl,rfl,un2.l,by rw [el,Ax];simp,?_⟩
  rw [el,List.dropLast_concat];generalize upd H2 L (.lst (W'.map nV))=H3 at un3 ⊢;refine qgk rx un3.g hd fun v rv=>?_;obtain ⟨va,vxs,rfl,hva,rvs⟩:=zj rv;obtain ⟨vr,_,rfl,rr,rvs1⟩:=Js rvs;obtain ⟨ve,_,rfl,re,rvs2⟩:=Js rvs1;obtain ⟨vc,_,rfl,rc,rvs3⟩:=Js rvs2;cases jv rvs3;refine ⟨va,_,rfl,un3.g.sqT hva,rfl,_,_,rfl,_,_,rfl,_,_,rfl,rfl,?_⟩;dsimp only;refine qee (i:=6) (j:=7) (σ:=[some x,some (nV sl),some (.ref D),some (.ref L),some vr,some ve,some vc,o7,o8,o9,o10]) rfl (rc.same un3.g) vc' lc fun H4 wl g4 nwl hwl=>?_;have un4:=un3.same g4;have hwL:wl≠L:=(qr un3.l nwl).symm;clear un un2 g2 un3 g4 nwl hva rvs rvs1 rvs2 rvs3 el hw rc rv;have hit:∀ {H'},qk H H'→(Cod.qW (.tuple [.tuple rows,e,.tuple cts])).1.testBit sl=true→Q (.bl true) H':=fun g hb=>q true _ g ⟨fun _=>⟨k,_,hkw,hp,hb⟩,fun _=>rfl⟩;refine qhz ?_;dsimp only [List.set];obtain ⟨ra,rxs,rfl,hra,rrs⟩:=zj rr;have rlen:=rrs.length;refine jB fun D1 n1 r1=>⟨_,rfl,.inr (.inl ⟨ra,rfl,⟨_,un4.g.sqT hra⟩,jn rows.length (fun j σ H'=>qk H4 H'∧((rows.take j).foldl Cod.qE (0,0)).1.testBit sl=false∧∃ o9:Option V,σ=[some x,some (nV sl),some (.ref D),some (.ref L),some (.ref ra),some ve,some vc,some (.ref wl),some (.bl (((rows.take j).foldl Cod.qE (0,0)).2.testBit sl)),o9,o10]) ⟨qk.refl _,B4 _,o9,by rw [List.take_zero];show _=[_,_,_,_,_,_,_,_,some (V.bl (Nat.testBit 0 sl)),_,_];rw [B4]⟩ (fun j σ H' hj h=>?_) (fun σ H' h=>?_)⟩)⟩
  ·obtain ⟨g,h1,o9',rfl⟩:=h;obtain ⟨rv,hrv⟩:∃ v,rxs[j]?=some v:=⟨_,Ah ⋯⟩;obtain ⟨rd,hrd,rrow⟩:=rrs.get hrv;have un5:=un4.same g;refine ⟨⟨rxs,_,un5.g.sqT hra,hrv⟩,fun v H5 yl N2 hN2=>?_⟩;obtain ⟨rfl,hv⟩:=yl;have e2:=hrv.symm.trans (hv rxs (un5.g.sqT hra));cases e2;have rov:=vr' rd (A0 hrd);have rrow5:=rrow.same un5.g;have ft:=Cod.Qq (q:=(0,0)) hrd;have sb:=Cod.Yo (q:=(rows.take j).foldl Cod.qE (0,0)) (row:=rd) (s:=sl);rw [← ft,h1,Dg] at sb;dsimp only [qC,List.set];generalize hb:((rows.take j).foldl Cod.qE (0,0)).2.testBit sl=b at sb ⊢;refine jB fun D2 n2 r2=>vx fun B b1 b2=>⟨_,rfl,_,rfl,?_⟩;have go:∀ {H6},qk H5 H6→((rows.take (j+1)).foldl Cod.qE (0,0)).1.testBit sl=false→D2.nx [some x,some (nV sl),some (.ref D),some (.ref L),some (.ref ra),some ve,some vc,some (.ref wl),some (.bl b),some rv,o10] H6:=fun {H6} g6 hb1=>n2 _ _ (qfq rov (rrow5.same g6) rfl rfl rfl (hN2 _ _ ⟨g.trans g6,hb1,_,by rw [sb.2];rfl⟩))
   cases b with
   | true=>
    refine JT (b2 _ (go (qk.refl _) (by rw [sb.1];simp)))
   | false=>
    refine jk ⟨_,rfl,_,rfl,rv,rd,_,_,rfl,rrow5,rov,fun v H6 g6 sv=>?_⟩;obtain ⟨p,rfl,hs⟩:=sv;refine ⟨p,_,rfl,hs,rfl,V9 _,_,rfl,?_⟩;rw [if_neg Ak,y3]
    by_cases hm:sl∈Cod.zY rd
    ·refine bP (Am hm) (b1 _ (r2 _ _ ?_));have hb1:((rows.take (j+1)).foldl Cod.qE (0,0)).1.testBit sl=true:=by
      rw [sb.1,Am hm];rfl
     exact r1 _ _ (hit (un5.g.trans g6) (by rw [Cod.yN,Cod.ZV hb1];rfl))
    ·refine bN (Ao hm) (b2 _ (go g6 (by rw [sb.1,Ao hm];rfl)))
  ·obtain ⟨g,h1,o9',rfl⟩:=h;have un5:=un4.same g;have hwl5:=g _ _ hwl;refine ⟨⟨rxs,un5.g.sqT hra,⋯⟩,n1 _ _ ?_⟩;rw [Bp] at h1 ⊢;clear un4 g hwl n1 r1 D1;refine jB fun D2 n2 r2=>?_;have fin:∀ {J:Hp} {wl:Ac} {o8:Option V},Un K H J D L (sts.map Cod.qW) sl S W' (some k)→J wl=some (.lst ((Cod.Jb rows e cts sl).map nV))→wl≠L→(Cod.qW (.tuple [.tuple rows,e,.tuple cts])).1.testBit sl=false→D2.nx [some x,some (nV sl),some (.ref D),some (.ref L),some (.ref ra),some ve,some vc,some (.ref wl),o8,o9',o10] J:=fun {J wl o8} un hwl hwL hbit=>n2 _ _ (by
    refine ⟨_,rfl,.inl ⟨wl,rfl,⟨_,SqL.of hwl⟩,jn (Cod.Jb rows e cts sl).length (fun i σ J'=>∃ S2 W2,∃ o10:Option V,Un K H J' D L (sts.map Cod.qW) sl S2 W2 (some k)∧J' wl=some (.lst ((Cod.Jb rows e cts sl).map nV))∧(∀ t∈(Cod.Jb rows e cts sl).take i,t∈S2)∧2*(sts.length - S2.length)+W2.length≤2*(sts.length - S.length)+W'.length∧σ=[some x,some (nV sl),some (.ref D),some (.ref L),some (.ref ra),some ve,some vc,some (.ref wl),o8,o9',o10]) ⟨S,W',o10,un,hwl,fun t ht=>(by rw [List.take_zero] at ht;cases ht),An _,rfl⟩ (fun i σ J' hi h=>?_) (fun σ J' h=>?_)⟩⟩
    ·obtain ⟨S2,W2,o10',u2,hw2,hin,hm,rfl⟩:=h;obtain ⟨t,ht⟩:∃ t,(Cod.Jb rows e cts sl)[i]?=some t:=⟨_,Ah hi⟩;have hv:((Cod.Jb rows e cts sl).map nV)[i]?=some (nV t):=by rw [Au,ht];rfl
     refine ⟨⟨_,_,SqL.of hw2,hv⟩,fun x H6 yl N3 hN3=>?_⟩;obtain ⟨rfl,e6⟩:=yl;have e6:=e6 _ (SqL.of hw2);rw [hv] at e6;cases e6;dsimp only [qC,List.set];have tk:∀ t'∈(Cod.Jb rows e cts sl).take (i+1),t'∈(Cod.Jb rows e cts sl).take i∨t'=t:=fun t' h'=>by
      rw [Bl,ht] at h';rcases Az.mp h' with z | z
      ·exact .inl z
      ·exact .inr (Ay.mp z)
     refine vx fun B b1 b2=>⟨_,rfl,_,rfl,D,_,rfl,jL.k (k:=Sum.inl (t:Int)) u2.d,_,rfl,?_⟩;rw [qhi]
     by_cases hts:t∈S2
     ·refine bN (by rw [Am hts];rfl) (b2 _ (hN3 _ _ ⟨S2,W2,_,u2,hw2,fun t' h'=>?_,hm,rfl⟩))
      rcases tk t' h' with z | z
      ·exact hin t' z
      ·rw [z];exact hts
     ·obtain ⟨ww,hww,rfl,hwb⟩:=Cod.X2.mp (A0 ht);have u3:=u2.add (.step hkw hp hww hwb) (pok.w _ (A0 hp) ww hww).1 hts;have l3:=u3.sr.len;rw [Ax,pl] at l3;have l3':S2.length+1≤sts.length:=l3;have b2000:(kvB S2).length<Af:=by
       unfold kvB;rw [Aj];exact Bk (show S2.length<2001 from ⋯) O0
      have lW:(W2.map nV).length<Af:=by
       rw [Aj];exact Bk (show W2.length<4001 from ⋯) O0
      refine bP (by rw [Ao hts];rfl) (b1 _ ⟨_,rfl,_,rfl,D,_,rfl,wC.k (k:=Sum.inl (ww.1:Int)) u2.d b2000,?_⟩)
      have hL2:upd H6 D (.dK (qS (kvB S2) (Sum.inl (ww.1:Int)) (.bl true))) L=some (.lst (W2.map nV)):=by
       rw [qo u2.ne.symm];exact u2.l
      have nD:wl≠D:=fun z=>by
       have e:=u2.d;rw [← z,hw2] at e;cases e
      refine ⟨_,rfl,.inl ⟨rfl,_,SqL.of hL2⟩,_,rfl,L,_,_,rfl,rfl,hL2,lW,hN3 _ _ ⟨S2++[ww.1],W2++[ww.1],_,u3,by rw [qo hwL,qo nD];exact hw2,fun t' h'=>?_,?_,rfl⟩⟩
      ·rcases tk t' h' with z | z
       ·exact Az.mpr (.inl (hin t' z))
       ·rw [z];exact Az.mpr (.inr (Ay.mpr rfl))
      ·rw [Ax,Ax];show 2*(sts.length - (S2.length+1))+(W2.length+1)≤_;omega
    ·obtain ⟨S2,W2,o10',u2,hw2,hin,hm,rfl⟩:=h;refine ⟨⟨_,SqL.of hw2,by rw [Aj];exact An _⟩,hN _ _ ⟨2*(sts.length - S2.length)+W2.length,?_,S2,W2,_,_,_,_,_,_,_,u2.shut fun p' hp'=>?_,rfl,?_,rfl⟩⟩
     ·rw [Ax];show _<2*(sts.length - S.length)+(W'.length+1);omega
     ·cases hp.symm.trans hp';refine ⟨hbit,fun ww hww hwb=>hin _ ?_⟩;rw [Bp];exact Cod.X2.mpr ⟨ww,hww,rfl,hwb⟩
     ·omega)
   generalize hb:(rows.foldl Cod.qE (0,0)).2.testBit sl=b;refine vx fun B b1 b2=>⟨_,rfl,_,rfl,?_⟩;have pb:=Cod.yN (rows:=rows) (e:=e) (cts:=cts) (s:=sl);rw [h1,hb,Dg] at pb;cases b with
   | true=>
    refine b2 _ (fin un5 ?_ hwL (by rw [pb];simp))
    rw [hwl5,Cod.Jb,hb,if_pos rfl,Cj]
   | false=>
    refine b1 _ ?_;refine jB fun D3 n3 r3=>vx fun B3 c1 c2=>⟨_,rfl,_,rfl,ve,e,_,_,_,rfl,re.same un5.g,ve',As ve'.len O0,fun v ys H6 g6 sv hy=>?_⟩;obtain ⟨p,rfl,hs⟩:=sv;have fl:ys.all vt=true:=by
     rcases hy with rfl | ⟨_,rfl⟩
     ·exact V9 _
     ·rfl
    have hin:inV (nV sl) ys=decide (sl∈Cod.zY e):=by
     rcases hy with rfl | ⟨h,rfl⟩
     ·exact y3 _ _
     ·rw [h];rfl
    refine ⟨p,_,rfl,hs,rfl,fl,_,rfl,?_⟩;rw [if_neg Ak,hin]
    by_cases hm:sl∈Cod.zY e
    ·refine bP (Am hm) (c1 _ (r3 _ _ (r2 _ _ ?_)));exact hit (un5.g.trans g6) (by rw [pb,Am hm];rfl)
    ·refine bN (Ao hm) (c2 _ (n3 _ _ ?_));have un6:=un5.same g6;refine ⟨_,rfl,_,rfl,_,rfl,ve,e,_,_,_,sl,rfl,re.same un6.g,ve',As ve'.len O0,fun v H7 g7 sv=>?_⟩;obtain ⟨p7,rfl,hs7⟩:=sv;refine ⟨p7,_,rfl,hs7,fun l hl=>?_⟩;have un7:=(un6.same g7).same (qe hl (.lst ((Cod.goesOf (Cod.jP e) (Cod.JJ e) sl).map nV)));have hwl7:=(qe hl (.lst ((Cod.goesOf (Cod.jP e) (Cod.JJ e) sl).map nV))) _ _ (g7 _ _ (g6 _ _ hwl5));refine XX hwl7 upd_same ?_ fun p8 hp8=>?_
     ·rw [Aj,Aj,Aj];exact As (Nat.add_le_add lc ve'.few) O0
     ·refine fin (un7.same (qe hp8 _)) ?_ (qr un7.l hp8).symm (by rw [pb,Ao hm];rfl)
      rw [upd_same,Cod.Jb,hb,if_neg Ak,A6]
 ·cases W with
  | nil=>exact q false _ (un.g.trans g2) ⟨fun h=>(nomatch h),fun h=>absurd h un.sr.done⟩
  | cons a W=>cases hw
theorem qdh {σ:St} {H:Hp} {p:Ac} {ds:List Aa} {Q:VK} (l:Lsd K H p ds) (fl:∀ d∈ds,Cod.Flt d) (q:∀ H',qk H H'→Q (.bl (!ds.isEmpty)) H'):v0 zu σ H fun y H2=>qag K (.ref p) y H2 Q:=by
 refine ⟨(O0:0≤Af),fun z hz=>?_⟩;have g:=qe hz (.lst []);obtain ⟨vs,h,r⟩:=l.same g;refine ⟨.list ds,.list [],.lst (SqL.of h) r,.lst (SqL.of upd_same) .nil,Cod.JA fl,Cod.JA (fun _ h=>nomatch h),?_⟩;rw [Cod.ZF];exact q _ g
theorem qd6 {σ:St} {H:Hp} {Q:VK} {v:V} {d:Aa} {a b:Nat} {sts:List Aa} (mw:Cod.Mw d a b sts) (rv:Rep K H v d) (h1:σ[1]?=some (some v))
  (q:∀ r H' (ss:List Nat),qk H H'→H' r=some (.lst (ss.map nV))→(ss=[]↔Cod.Wtn d)→Q (.ref r) H'):
  zK (Itr (a:Nat) (b - a)) [none,some 1] (qC 0) (tB (jA (qfi K) [] E0 (qw (tOp (rIx K) (qG 1) (tC (.int 7))) (qw (qG 0) zu)))) (qG 0) σ H Q:=by
 have b1:=mw.b1;have lt:=mw.lt;refine zd (b - a) (fun i ys H'=>qk H H'∧∃ ss:List Nat,ys=ss.map nV∧ss.length≤i∧(ss=[]↔∀ s,a≤s→s<a+i→¬ Cod.UnW (sts.map Cod.qW) s)) ⟨qk.refl _,[],rfl,An _,fun _ s h h'=>⋯,fun _=>rfl⟩ (fun i ys H' h=>?_) (As (show b - a≤1000 from ⋯) O0) (fun i ys H' hi h=>?_) (fun ys H' h=>?_)
 ·obtain ⟨_,ss,rfl,h,_⟩:=h;rw [Aj];exact h
 ·obtain ⟨g,ss,rfl,le,hss⟩:=h;refine ⟨hi,fun x H2 yl=>?_⟩;obtain ⟨rfl,rfl⟩:=yl;have e1:((zm [none,some 1] σ).set 0 (some (.int ((a:Nat)+(i:Nat)))))[1]?=some (some v):=by
   show some (σ[1]?.join)=_;rw [h1];rfl
  obtain ⟨d0,d1,d2,d5,d6,rfl⟩:=mw.ex;refine ⟨_,e1,ixr (i:=7) (rv.same g) rfl fun u ru=>⟨_,rfl,u,sts,1000,a+i,by rw [← Int.natCast_add];rfl,ru,mw.l2,mw.st,mw.pok,fun bb H3 g3 hb=>⟨_,rfl,qN (fun z=>?_) fun z=>?_⟩⟩⟩
  ·refine ⟨_,rfl,g.trans g3,ss++[a+i],?_,by rw [Ax];exact Dk le,?_⟩
   ·rw [A6,← Int.natCast_add];rfl
   ·constructor
    ·intro h;cases ss <;> cases h
    ·intro h;exact absurd (hb.mp z) (h (a+i) ⋯ ⋯)
  ·refine ⟨g.trans g3,ss,rfl,Dt le,?_⟩;rw [hss];have nb:¬ Cod.UnW (sts.map Cod.qW) (a+i):=fun h=>by
    rw [hb.mpr h] at z;cases z
   constructor
   ·intro h s h1 h2
    by_cases hs:s=a+i
    ·rw [hs];exact nb
    ·exact h s h1 ⋯
   ·exact fun h s h1 h2=>h s h1 ⋯
 ·obtain ⟨g,ss,rfl,le,hss⟩:=h;refine ⟨An _,fun D hD=>q D _ ss (g.trans (qe hD _)) upd_same ?_⟩;rw [hss,mw.wtn];exact ⟨fun h s h1 h2=>h s h1 ⋯,fun h s h1 h2=>h s h1 ⋯⟩
def qhm (K:Frag):Sp:=fun vs H Q _=>∃ x ds,vs=[x]∧Rep K H x (.tuple ds)∧(∀ d∈ds,∃ a b sts,Cod.Mw d a b sts)∧∀ (b:Bool) H',qk H H'→(b=true↔∀ d∈ds,Cod.Wtn d)→Q (.bl b) H'
theorem VB (F:Fun K "_law_is_written" "_law_is_written" jd f fd) (c:Cs K mg ad) (d_law_unwritten:Def P w K mg base 2 "_law_unwritten" ["_law_states","_law_slot"] (qfi K)):FnOk P w K mg base CX0 3 f fd ["_law_code_here"] (qhm K):=by
 refine F.ok JC (fun vs H Q E h=>?_) (fun cdv A outer s H vs Q E hr h=>?_)
 ·obtain ⟨x,ds,rfl,_⟩:=h;rfl
 obtain ⟨x,ds,rfl,rx,hm,q⟩:=h;have hu64:=vA hr;refine ⟨_,(qf (ji Bt rfl (Jx (K:=K) rfl (pv 0)) (pgn 1 JC.nd) (qg (qF (qu (Wl (K:=K) rfl hu64) (qX (sc:=qh jd) (NX:=["_law_code_here","_law_machine"]) (N:=["_law_slot","_law_machine"]) (js:=[none,some 1]) (vV rfl c.range_ (qa (pix K (pv 1) qc) (qa (pix K (pv 1) qc) qb))) (fun _ _ _ _ _=>(qx (i:=0) (show (["_law_slot","_law_machine"]:List Str).Nodup from ∅) rfl (Or.inl rfl))) (fun _ _ _ _ _=>(vG (zh (pdf d_law_unwritten (qa (pix K (pv 1) qc) (qa (pv 0) qb)))))) (fun _ _ _ _ _=>(pv 0)) (qB rfl) ⟨∅,rfl,∅,∅,rfl,∅⟩) (qT qb) (qq _)) (qg (qm zJ)) qv)))
   (qg (qm zJ))),?_⟩
 clear hr hu64;obtain ⟨a,xs,rfl,ha,rs⟩:=zj rx;have rlen:=rs.length;refine jB fun D1 n1 r1=>⟨_,rfl,.inr (.inl ⟨a,rfl,⟨_,ha⟩,jn ds.length (fun i σ H'=>qk H H'∧(∀ d∈ds.take i,Cod.Wtn d)∧∃ o1:Option V,σ=[some (.ref a),o1]) ⟨qk.refl _,fun d h=>(by rw [List.take_zero] at h;cases h),none,rfl⟩ (fun i σ H' hi h=>?_) (fun σ H' h=>?_)⟩)⟩
 ·obtain ⟨g,hw,o1,rfl⟩:=h;obtain ⟨v,hv⟩:∃ v,xs[i]?=some v:=⟨_,Ah ⋯⟩;obtain ⟨d,hd,rd⟩:=rs.get hv;refine ⟨⟨xs,_,g.sqT ha,hv⟩,fun u H5 yl N hN=>?_⟩;obtain ⟨rfl,e⟩:=yl;have e2:=hv.symm.trans (e xs (g.sqT ha));cases e2;obtain ⟨a1,b1,sts,mw⟩:=hm d (A0 hd);have rd5:=rd.same g;dsimp only [qC,List.set];refine vx fun B b2 b3=>?_;obtain ⟨d0,d1,d2,d5,d6,rfl⟩:=mw.ex;refine ⟨_,rfl,ixr (i:=3) rd5 rfl fun u3 ru3=>?_⟩;cases ru3;refine ⟨_,rfl,ixr (i:=4) rd5 rfl fun u4 ru4=>?_⟩;cases ru4;have b1l:=mw.b1;have ltl:=mw.lt;refine ⟨_,_,rfl,⟨⋯,⋯,⋯,⋯⟩,?_⟩;rw [show ((b1:Int) - (a1:Int)).toNat=b1 - a1 from ⋯];refine qd6 mw rd5 rfl fun r H6 ss g6 hr6 hss=>qdh (ds:=ss.map fun j:Nat=> .int (j:Int)) ⟨_,hr6,J6 ss⟩ (fun d hd=>by obtain ⟨j,_,rfl⟩:=A3.mp hd;exact Cod.Ya) fun H7 g7=>⟨_,rfl,?_⟩
  have gg:=g.trans (g6.trans g7);cases ss with
  | nil=>
   refine b3 _ (hN _ _ ⟨gg,fun d' h'=>?_,_,rfl⟩);rw [Bl,hd] at h';rcases Az.mp h' with z | z
   ·exact hw d' z
   ·rw [Ay.mp z];exact hss.mp rfl
  | cons a2 ss=>
   refine b2 _ (r1 _ _ (q false _ gg ⟨fun h=>(nomatch h),fun h=>?_⟩));exact nomatch hss.mpr (h _ (A0 hd))
 ·obtain ⟨g,hw,o1,rfl⟩:=h;refine ⟨⟨xs,g.sqT ha,⋯⟩,n1 _ _ (q true _ g ⟨fun _=>?_,fun _=>rfl⟩)⟩;rw [Bp] at hw;exact hw
theorem ixl {x:V} {ds:List Aa} {i:Nat} {d:Aa} {H:Hp} {Q:VK} (r:Rep K H x (.list ds)) (h:ds[i]?=some d) (q:∀ v,Rep K H v d→Q v H):rIx K x (.int (i:Nat)) H Q:=by
 cases r with
 | @lst a xs _ hq hs=>
  have hl:=hs.length;obtain ⟨hi,_⟩:=A2.mp h;have hx:=Ah (l:=xs) (i:=i) ⋯;obtain ⟨d',hd,rv⟩:=hs.get hx;rw [h] at hd;cases hd;exact .inl ⟨_,_,(i:Nat),_,rfl,rfl,hq,zT hx,q _ rv⟩
theorem Q5 {tl:TE} {ds:List Aa} {k j:Nat} {σ:St} {H:Hp} {t a:Ac} {r:TS} {D:Ends} (h:Me K tl σ H (.list ds)) (e0:σ[0]?=some (some (.ref t))) (tp:Tp K a 7 H t) (hk:ds.length=k) (k0:0<k) (q:∀ (i:Nat) d v H',ds[i]?=some d→Stay t H H'→Tp K a 7 H' t→Rep K H' v d→r D (σ.set j (some v)) H'):Jn (VM (tOp (rIx K) tl (jA (zH K) [] E0 (qw (qG 0) (qw (tC (.int (k:Nat))) zu)))) (qC j)) r D σ H:=h H _ (qk.refl _) fun x H2 g2 rx=>⟨_,e0,t,(k:Nat),a,7,rfl,tp.stay g2,⋯,fun z3 H3 a3 b3 st3 tp3=>by
 obtain ⟨i,rfl⟩:∃ n:Nat,z3=(n:Nat):=⟨z3.toNat,⋯⟩;obtain ⟨kv,hkv⟩:=tp.dk;obtain ⟨d,hd⟩:∃ d,ds[i]?=some d:=⟨_,Ah ⋯⟩;exact ixl (rx.stay st3) hd fun v rv=>q i d v H3 hd (Stay.after g2 hkv st3) tp3 rv⟩
def qhs (K:Frag):Sp:=fun vs H Q _=>∃ t a,vs=[.ref t]∧Tp K a 7 H t∧∀ v ds H',Stay t H H'→Tp K a 7 H' t→Rep K H' v (.tuple ds)→Cod.Cdx ds→Q v H'
theorem Wg (F:Fun K "_law_pointed" "_law_pointed" JL f fd) (c:Cs K mg ad) (d_law_draw:Def P w K mg base 1 "_law_draw" ["_law_tape_here","_law_many"] (zH K)):FnOk P w K mg base CX0 2 f fd ["_law_tape_here"] (qhs K):=by
 refine F.ok qU (fun vs H Q E h=>?_) (fun cdv A outer s H vs Q E hr h=>?_)
 ·obtain ⟨t,a,rfl,_⟩:=h;rfl
 obtain ⟨t,a,rfl,tp,q⟩:=h;refine ⟨_,(qf (pst 1 qU.nd (qH (jf (K:=K) rfl) qc (pdf d_law_draw (qa (pv 0) (qa qc qb)))))
   (qf (pst 2 qU.nd (pv 1))
   (qf (pst 3 qU.nd (qH (jf (K:=K) rfl) (pv 1) qc))
   (qf (pst 4 qU.nd (pix K (qT (qa (qi (qa qj (qa (pv 3) qb))) (qa (qi (qa qj (qa qj (qa (pv 3) qb)))) (qa (qi (qa qj (qa (pv 3) (qa qc (qa qc qb))))) (qa (qi (qa qj (qa (pv 2) qb))) (qa (qi (qa qj (qa (pv 3) (qa qc qb)))) qb)))))) (pdf d_law_draw (qa (pv 0) (qa qc qb)))))
   (qf (pst 5 qU.nd (qi (qa (qi qb) (qa (pv 4) (qa (qi qb) qb)))))
   (qf (pst 6 qU.nd (qi (qa (qi qb) (qa (qi (qa qj (qa J8 qb))) (qa (qi qb) qb)))))
   (qf (pst 7 qU.nd (qi (qa (qi (qa qj (qa (pv 2) (qa qc qb)))) qb)))
   (qf (pst 8 qU.nd (qi (qa (qi (qa qj (qa (pv 3) (qa qc qb)))) qb)))
   (qf (pst 9 qU.nd (qi (qa (qi (qa qj (qa (qi (qa qj (qa qc qb))) (qa qc qb)))) qb)))
   (qf (pst 10 qU.nd (qT (qa (qi (qa (qi (qa (pv 7) (qa (qi (qa qj (qa (pv 3) (qa (pv 2) (qa qc (qa qc qb)))))) (qa (qi qb) qb)))) (qa (pv 6) (qa (pv 5) qb)))) (qa (qi (qa (qi (qa (pv 7) (qa (qi (qa qj (qa (pv 3) (qa (pv 2) (qa qc (qa qc qb)))))) (qa (qi qb) qb)))) (qa (pv 6) (qa (pv 5) qb)))) (qa (qi (qa (qi (qa (pv 7) (qa (qi (qa qj (qa (pv 3) (qa (pv 2) (qa (qi qb) (qa qc qb)))))) (qa (qi qb) qb)))) (qa (pv 6) (qa (pv 5) qb)))) (qa (qi (qa (qi (qa (pv 7) (qa (qi (qa qj (qa (pv 3) (qa (pv 2) (qa (qi qb) (qa qc qb)))))) (qa (pv 9) qb)))) (qa (pv 6) (qa (pv 5) qb)))) (qa (qi (qa (qi (qa (qH (jf (K:=K) rfl) (pv 7) (pv 8)) (qa (qi (qa qj (qa qc qb))) (qa (pv 9) qb)))) (qa (pv 6) (qa (pv 5) qb)))) (qa (qi (qa (qi (qa (qH (jf (K:=K) rfl) (pv 7) (pv 8)) (qa (qi (qa qj (qa qc qb))) (qa (qi qb) qb)))) (qa (qi (qa (qi qb) (qa (qi (qa qj (qa qc qb))) (qa (pv 9) qb)))) (qa (pv 5) qb)))) (qa (qi (qa (qi (qa (pv 7) (qa (qi (qa qj (qa (pv 2) (qa qc (qa qc qb))))) (qa (qi qb) qb)))) (qa (qi (qa (pv 8) (qa (qi (qa qj (qa qc qb))) (qa (qi qb) qb)))) (qa (pv 5) (qa (qi (qa (qi qb) (qa (qi (qa qj (qa qc qb))) (qa (qi qb) qb)))) qb))))) (qa (qi (qa (qi (qa (pv 7) (qa (qi (qa qj (qa (pv 2) (qa qc (qa qc qb))))) (qa (qi qb) qb)))) (qa (qi (qa (pv 8) (qa (qi (qa qj (qa qc qb))) (qa (qi qb) qb)))) (qa (pv 5) (qa (qi (qa (pv 8) (qa (qi (qa qj (qa qc qb))) (qa (qi qb) qb)))) qb))))) qb))))))))))
   (qg (qm (qi (qa (qi (qa qj (qa J8 (qa qc (qa (pv 1) (qa (qH (jf (K:=K) rfl) (pv 1) qc) (qa (qi qb) (qa (qi qb) (qa (pix K (pv 10) (pdf d_law_draw (qa (pv 0) (qa qc qb)))) qb))))))))) qb)))))))))))))),?_⟩
 clear hr;refine ⟨_,rfl,t,2,a,7,rfl,tp,O0,fun z1 H1 a1 b1 st1 tp1=> .inl (.inl ⟨_,_,rfl,rfl,?_⟩)⟩;obtain ⟨m,em,hm⟩:∃ m:Nat,(1:Int)+z1=(m:Nat)∧(m=1∨m=2):=⟨(1+z1).toNat,⋯,⋯⟩;dsimp only;rw [em];clear em a1 b1;refine ⟨_,rfl,?_⟩;refine ⟨_,rfl,.inl (.inl ⟨_,_,rfl,rfl,?_⟩)⟩;dsimp only [qC];show Jn _ _ _ [some (.ref t),some (nV m),some (nV m),some (nV (m+1)),none,none,none,none,none,none,none] H1;refine Q5 (j:=4) (k:=5) (ds:=Cod.qal m) (qiq (qd (qL (qd jJ (qd (vw (i:=3) rfl).me ql))) (qd (qL (qd jJ (qd jJ (qd (vw (i:=3) rfl).me ql)))) (qd (qL (qd jJ (qd (vw (i:=3) rfl).me (qd jK (qd jK ql))))) (qd (qL (qd jJ (qd (vw (i:=2) rfl).me ql))) (qd (qL (qd jJ (qd (vw (i:=3) rfl).me (qd jK ql)))) ql)))))) rfl tp1 rfl O0 fun k ask va H3 hask st3 tp3 ra=>?_;have stA:=st1.trans st3;clear st3 st1 tp1;refine Me.set (i:=5) (d:=Cod.J7 ask) (qL (qd (qL ql) (qd (jw (i:=4) rfl ra) (qd (qL ql) ql)))) fun vl H4 g4 rl=>?_;refine Me.set (K:=K) (i:=6) (d:=Cod.VT) (qL (qd (qL ql) (qd (qL (qd jJ (qd me_n ql))) (qd (qL ql) ql)))) fun vo H5 g5 ro=>?_;refine Me.set (K:=K) (i:=7) (d:= .tuple [Cod.Jj m]) (qL (qd (qL (qd jJ (qd (vw (i:=2) rfl).me (qd jK ql)))) ql)) fun vf H6 g6 rf=>?_;refine Me.set (K:=K) (i:=8) (d:= .tuple [Cod.VU m]) (qL (qd (qL (qd jJ (qd (vw (i:=3) rfl).me (qd jK ql)))) ql)) fun vm H7 g7 rm=>?_;refine Me.set (K:=K) (i:=9) (d:= .tuple [Cod.Zd]) (qL (qd (qL (qd jJ (qd (qL (qd jJ (qd jK ql))) (qd jK ql)))) ql)) fun vc H8 g8 rc=>?_;have rl:=rl.same (g5.trans (g6.trans (g7.trans g8)));have ro:=ro.same (g6.trans (g7.trans g8));have rf:=rf.same (g7.trans g8);have rm:=rm.same g8;have stB:=stA.then (g4.trans (g5.trans (g6.trans (g7.trans g8))));have tp8:=tp3.stay (g4.trans (g5.trans (g6.trans (g7.trans g8))));clear stA tp3 g4 g5 g6 g7 g8 ra;refine Me.set (i:=10) (d:= .list ((Cod.yM m ask).map .tuple)) (qiq (qd (qL (qd (qL (qd (jw (i:=7) rfl rf) (qd (qL (qd jJ (qd (vw (i:=3) rfl).me (qd (vw (i:=2) rfl).me (qd jK (qd jK ql)))))) (qd (qL ql) ql)))) (qd (jw (i:=6) rfl ro) (qd (jw (i:=5) rfl rl) ql)))) (qd (qL (qd (qL (qd (jw (i:=7) rfl rf) (qd (qL (qd jJ (qd (vw (i:=3) rfl).me (qd (vw (i:=2) rfl).me (qd jK (qd jK ql)))))) (qd (qL ql) ql)))) (qd (jw (i:=6) rfl ro) (qd (jw (i:=5) rfl rl) ql)))) (qd (qL (qd (qL (qd (jw (i:=7) rfl rf) (qd (qL (qd jJ (qd (vw (i:=3) rfl).me (qd (vw (i:=2) rfl).me (qd (qL ql) (qd jK ql)))))) (qd (qL ql) ql)))) (qd (jw (i:=6) rfl ro) (qd (jw (i:=5) rfl rl) ql)))) (qd (qL (qd (qL (qd (jw (i:=7) rfl rf) (qd (qL (qd jJ (qd (vw (i:=3) rfl).me (qd (vw (i:=2) rfl).me (qd (qL ql) (qd jK ql)))))) (qd (jw (i:=9) rfl rc) ql)))) (qd (jw (i:=6) rfl ro) (qd (jw (i:=5) rfl rl) ql)))) (qd (qL (qd (qL (qd (qa5 (jw (i:=7) rfl rf) (jw (i:=8) rfl rm) (show 2≤10000 from O0)) (qd (qL (qd jJ (qd jK ql))) (qd (jw (i:=9) rfl rc) ql)))) (qd (jw (i:=6) rfl ro) (qd (jw (i:=5) rfl rl) ql)))) (qd (qL (qd (qL (qd (qa5 (jw (i:=7) rfl rf) (jw (i:=8) rfl rm) (show 2≤10000 from O0)) (qd (qL (qd jJ (qd jK ql))) (qd (qL ql) ql)))) (qd (qL (qd (qL ql) (qd (qL (qd jJ (qd jK ql))) (qd (jw (i:=9) rfl rc) ql)))) (qd (jw (i:=5) rfl rl) ql)))) (qd (qL (qd (qL (qd (jw (i:=7) rfl rf) (qd (qL (qd jJ (qd (vw (i:=2) rfl).me (qd jK (qd jK ql))))) (qd (qL ql) ql)))) (qd (qL (qd (jw (i:=8) rfl rm) (qd (qL (qd jJ (qd jK ql))) (qd (qL ql) ql)))) (qd (jw (i:=5) rfl rl) (qd (qL (qd (qL ql) (qd (qL (qd jJ (qd jK ql))) (qd (qL ql) ql)))) ql))))) (qd (qL (qd (qL (qd (jw (i:=7) rfl rf) (qd (qL (qd jJ (qd (vw (i:=2) rfl).me (qd jK (qd jK ql))))) (qd (qL ql) ql)))) (qd (qL (qd (jw (i:=8) rfl rm) (qd (qL (qd jJ (qd jK ql))) (qd (qL ql) ql)))) (qd (jw (i:=5) rfl rl) (qd (qL (qd (jw (i:=8) rfl rm) (qd (qL (qd jJ (qd jK ql))) (qd (qL ql) ql)))) ql))))) ql))))))))) fun vs H9 g9 rs=>?_;have stC:=stB.then g9;have tp9:=tp8.stay g9;clear stB tp8 g9 rl ro rf rm rc;refine ⟨_,rfl,_,rfl,.inl (.inl ⟨_,_,rfl,rfl,(O0:0≤Af),fun e1 he1=>⟨(O0:0≤Af),fun e2 he2=>?_⟩⟩)⟩;have gA:=qe he1 (.tup []);have gB:=qe he2 (.tup []);have r1:Rep K (upd H9 e1 (.tup [])) (.ref e1) (.tuple []):= .tup (SqT.of upd_same) .nil;have r2:Rep K (upd (upd H9 e1 (.tup [])) e2 (.tup [])) (.ref e2) (.tuple []):= .tup (SqT.of upd_same) .nil;have r1:=r1.same gB;have rs:=rs.same (gA.trans gB);have stD:=stC.then (gA.trans gB);have tpD:=tp9.stay (gA.trans gB);generalize upd (upd H9 e1 (.tup [])) e2 (.tup [])=H10 at r1 r2 rs stD tpD ⊢;refine ⟨_,rfl,_,rfl,t,8,a,7,rfl,tpD,O0,fun z4 H11 a4 b4 st4 tp4=>?_⟩;obtain ⟨j,rfl⟩:∃ n:Nat,z4=(n:Nat):=⟨z4.toNat,⋯⟩;obtain ⟨sts,hsts⟩:∃ d,(Cod.yM m ask)[j]?=some d:=⟨_,Ah (show j<8 from ⋯)⟩;refine ixl (d:= .tuple sts) (rs.stay st4) (by rw [Au,hsts];rfl) fun v rv=>?_
 have r1:=r1.stay st4;have r2:=r2.stay st4;refine ⟨(O0:8≤Af),fun p hp=>⟨(O0:1≤Af),fun p2 hp2=>?_⟩⟩;have g5:=qe hp (.tup [.str "main",.non,.int 0,nV m,.int ((m:Int)+3),.ref e1,.ref e2,v]);have rp:Rep K (upd H11 p (.tup [.str "main",.non,.int 0,nV m,.int ((m:Int)+3),.ref e1,.ref e2,v])) (.ref p) (Cod.ptM m sts).data:= .tup (SqT.of upd_same) (.cons (.str _) (.cons .non (.cons (.int _) (.cons (.int _) (.cons (.int _) (.cons (r1.same g5) (.cons (r2.same g5) (.cons (rv.same g5) .nil))))))));have g6:=qe hp2 (.tup [.ref p]);exact q _ _ _ ((stD.trans st4).then (g5.trans g6)) (tp4.stay (g5.trans g6)) (.tup (SqT.of upd_same) (.cons (rp.same g6) .nil)) (Cod.qg3 hm (A0 hask) (A0 hsts))
theorem qe5 {α:Type} {x:α}:∀ n:Nat,(List.replicate n [x]).flatten=List.replicate n x
 | 0=>rfl
 | n+1=>by
  rw [Cv,Dw,qe5 n,Cv];rfl
theorem YC {x:V} {H:Hp} {d:Aa} (r:Rep K H x d):∀ n:Nat,Reps K H (List.replicate n x) (List.replicate n d)
 | 0=> .nil
 | n+1=> .cons r (YC r n)
theorem qcv {ta:TE} {d:Aa} {k j:Nat} {σ:St} {H:Hp} {t a:Ac} {r:TS} {D:Ends} (h:Me K ta σ H d) (e0:σ[0]?=some (some (.ref t))) (tp:Tp K a 7 H t) (k0:0<k) (k1:k≤100) (q:∀ (n:Nat) v H',n<k→Stay t H H'→Tp K a 7 H' t→Rep K H' v (.tuple (List.replicate n d))→r D (σ.set j (some v)) H'):Jn (VM (tOp (qex K) (VL (qw ta zu)) (jA (zH K) [] E0 (qw (qG 0) (qw (tC (.int (k:Nat))) zu)))) (qC j)) r D σ H:=h H _ (qk.refl _) fun x H1 g1 rx=>⟨(O0:1≤Af),fun p hp=>by
 have g2:=qe hp (.tup [x]);have hs:SqT K (upd H1 p (.tup [x])) p [x]:=SqT.of upd_same;have rx:=rx.same g2;have gA:=g1.trans g2;have rt:Rep K (upd H1 p (.tup [x])) (.ref p) (.tuple [d]):= .tup hs (.cons rx .nil);generalize upd H1 p (.tup [x])=H2 at hs rx gA rt ⊢;refine ⟨_,e0,t,(k:Nat),a,7,rfl,tp.stay gA,⋯,fun z3 H3 a3 b3 st3 tp3=>?_⟩;obtain ⟨i,rfl⟩:∃ n:Nat,z3=(n:Nat):=⟨z3.toNat,⋯⟩;obtain ⟨kv,hkv⟩:=tp.dk;obtain ⟨p',xs,e,hp',rs⟩:=zj (rt.stay st3);cases e;obtain ⟨y,ys,rfl,ry,r0⟩:=Js rs;cases jv r0;refine ⟨p,(i:Nat),[y],rfl,rfl,hp',by simp,⋯,⋯,by show 1≤100;decide,fun c H4 g4 hc=>?_⟩
 rw [Bf,qe5] at hc;exact q i _ H4 ⋯ ((Stay.after gA hkv st3).then g4) (tp3.stay g4) (.tup hc (YC (ry.same g4) i))⟩
theorem qec {σ:St} {H:Hp} {Q:VK} {n:Nat} (hn:n≤3000) (q:∀ p ys H1 H',qk H H1→Reps K H1 ys ((List.range' 1 n).map Cod.WS)→H1 p=none→H'=upd H1 p (.lst ys)→Q (.ref p) H'):
  zK (Itr 1 n) [none] (qC 0) Jw (VL (qw (VL zu) (qw (VL (qw (tC (.str "go")) (qw (tOp JP (qG 0) (tC (.int 1))) zu))) (qw (VL zu) zu)))) σ H Q:=by
 refine zd n (fun i ys H'=>qk H H'∧Reps K H' ys ((List.range' 1 i).map Cod.WS)) ⟨qk.refl _,.nil⟩ (fun i ys H' h=>?_) (As hn O0) (fun i ys H' hi h=>?_) (fun ys H' h=>?_)
 ·rw [h.2.length,Aj,C0];exact An _
 ·obtain ⟨g,rs⟩:=h;refine ⟨hi,fun x H2 yl=>?_⟩;obtain ⟨rfl,rfl⟩:=yl;dsimp only [qC,Jw];refine jk ?_;refine Me.go (K:=K) (σ:=(zm [none] σ).set 0 (some (.int ((1:Int)+(i:Nat))))) (d:=Cod.WS (1+i)) (qip (qL (qd (qL ql) (qd (qL (qd jJ (qd (qgd (vw (i:=0) rfl) mi_c).me ql))) (qd (qL ql) ql)))) (show PyData.tuple [.tuple [],.tuple [.str "go",.int ((1:Int)+(i:Nat)+1)],.tuple []]=Cod.WS (1+i) by
   unfold Cod.WS;rw [show ((1+i+1:Nat):Int)=(1:Int)+(i:Nat)+1 from ⋯];rfl)) fun v H3 g3 rv=>⟨g.trans g3,?_⟩
  rw [List.range'_concat,A6,Nat.one_mul];exact (rs.same g3).append (.cons rv .nil)
 ·obtain ⟨g,rs⟩:=h;exact ⟨An _,fun D hD=>q D ys H' _ g rs hD rfl⟩
theorem qfn {ta tc:TE} {d:Aa} {ds:List Aa} {j:Nat} {σ:St} {H:Hp} {r:TS} {D:Ends} (h:Me K ta σ H d) (hc:∀ H1,qk H H1→∀ Q:VK,(∀ p ys H2 H3,qk H1 H2→Reps K H2 ys ds→H2 p=none→H3=upd H2 p (.lst ys)→Q (.ref p) H3)→tc σ H1 Q) (hl:ds.length≤3000) (q:∀ p vs H4,qk H H4→Reps K H4 vs (d::ds)→H4 p=none→r D (σ.set j (some (.ref p))) (upd H4 p (.lst vs))):Jn (VM (tOp JP (v0 (qw ta zu)) tc) (qC j)) r D σ H:=h H _ (qk.refl _) fun x H1 g1 rx=>⟨(O0:1≤Af),fun p hp=>by
 have g2:=qe hp (.lst [x]);refine hc _ (g1.trans g2) _ fun p2 ys H2 H3 g3 rs hp2 e=>?_;subst e;have g4:=qe hp2 (.lst ys);have h1:upd H2 p2 (.lst ys) p=some (.lst [x]):=g4 _ _ (g3 _ _ upd_same);have ln:=rs.length;refine XX h1 upd_same (As (show 1+ys.length≤3001 from ⋯) O0) fun p3 hp3=>?_;exact q p3 (x::ys) _ (g1.trans (g2.trans (g3.trans g4))) (.cons (rx.same (g2.trans (g3.trans g4))) (rs.same g4)) hp3⟩
theorem qbw {ta:TE} {d:Aa} {i:Nat} {p:Ac} {vs:List V} {σ:St} {H:Hp} {r:TS} {D:Ends} (e:σ[i]?=some (some (.ref p))) (hp:H p=some (.lst vs)) (hl:vs.length<Af) (h:Me K ta σ H d) (q:∀ v H1,qk H H1→Rep K H1 v d→r D σ (upd H1 p (.lst (vs++[v])))):Jn (qes (tBM K "list" yL (qG i) (qw ta zu))) r D σ H:=⟨_,e,.inl ⟨rfl,_,SqL.of hp⟩,h H _ (qk.refl _) fun v H1 g1 rv=>⟨p,vs,v,rfl,rfl,g1 _ _ hp,hl,q v H1 g1 rv⟩⟩
def qht (K:Frag):Sp:=fun vs H Q _=>∃ t a,vs=[.ref t]∧Tp K a 7 H t∧∀ v n r H',Stay t H H'→Tp K a 7 H' t→Rep K H' v (.tuple [(Cod.lgM n r).data])→n≤1900→r≤1→Q v H'
theorem YG (F:Fun K "_law_long" "_law_long" J2 f fd) (c:Cs K mg ad) (d_law_draw:Def P w K mg base 1 "_law_draw" ["_law_tape_here","_law_many"] (zH K)):FnOk P w K mg base CX0 2 f fd ["_law_tape_here"] (qht K):=by
 refine F.ok JB (fun vs H Q E h=>?_) (fun cdv A outer s H vs Q E hr h=>?_)
 ·obtain ⟨t,a,rfl,_⟩:=h;rfl
 obtain ⟨t,a,rfl,tp,q⟩:=h;refine ⟨_,(qf (pst 1 JB.nd (qH zk qc (pdf d_law_draw (qa (pv 0) (qa qc qb)))))
   (qf (pst 2 JB.nd (qH (qga (K:=K) rfl) (qi (qa (qi (qa qj (qa qc (qa qc qb)))) qb)) (pdf d_law_draw (qa (pv 0) (qa qc qb)))))
   (qf (pst 3 JB.nd (qH zk (qT (qa (qi (qa (pv 2) (qa (qi (qa qj (qa qc qb))) (qa (qi qb) qb)))) qb)) (qX (sc:=qh J2) (NX:=["_law_tape_here","_law_many","_law_rows","_law_states"]) (N:=["_law_k"]) (js:=[none]) (vV rfl c.range_ (qa qc (qa (qH yP (pv 1) qc) qb))) (fun _ _ _ _ _=>(qx (i:=0) (show (["_law_k"]:List Str).Nodup from ∅) rfl (Or.inl rfl))) (fun _ _ _ _ _=>zn) (fun _ _ _ _ _=>(qi (qa (qi qb) (qa (qi (qa qj (qa (qH zk (pv 0) qc) qb))) (qa (qi qb) qb))))) (qB rfl) ⟨∅,rfl,∅,∅,rfl,∅⟩)))
   (qf (je (WF (K:=K) rfl Bu B6 B5 jg (pv 3) (qa (qi (qa (qi qb) (qa (qi (qa qj (qa qc qb))) (qa (qi qb) qb)))) qb)))
   (qg (qm (qi (qa (qi (qa qj (qa J8 (qa qc (qa qc (qa qc (qa (qi qb) (qa (qi qb) (qa (zr (Jy (K:=K) rfl) (by rfl) c.tuple_ zO (qa (pv 3) qb)) qb))))))))) qb)))))))),?_⟩
 clear hr;refine ⟨_,rfl,t,90,a,7,rfl,tp,O0,fun z1 H1 a1 b1 st1 tp1=> .inl ⟨_,_,rfl,rfl,?_⟩⟩;obtain ⟨n,em,hm⟩:∃ n:Nat,(1100:Int)+z1=((n+2:Nat):Int)∧n≤1900:=⟨(1098+z1).toNat,⋯,⋯⟩;dsimp only;rw [em];clear em a1 b1;dsimp only [qC];show Jn _ _ _ [some (.ref t),some (nV (n+2)),none,none] H1;refine qcv (K:=K) (d:=Cod.wk) (k:=2) (j:=2) (qL (qd jJ (qd jK (qd jK ql)))) rfl tp1 O0 O0 fun r vr H2 hr st2 tp2 rr=>?_;have stA:=st1.trans st2;clear st1 st2 tp1;dsimp only [List.set];refine qfn (K:=K) (j:=3) (σ:=[some (.ref t),some (nV (n+2)),some vr,none]) (d:= .tuple [.tuple (List.replicate r Cod.wk),.tuple [.str "go",.int 1],Cod.t0]) (ds:=(List.range' 1 n).map Cod.WS) (qL (qd (jw (i:=2) rfl rr) (qd (qL (qd jJ (qd jK ql))) (qd (qL ql) ql)))) (fun H3 g3 Q3 q3=>?_) (by rw [Aj,C0];omega) fun p vs H4 g4 rs hp=>?_
 ·refine ⟨_,rfl,_,_,rfl,rfl,_,_,rfl,⟨O0,O0,⋯,⋯⟩,?_⟩;rw [show ((n+2:Nat) - 1 - 1:Int).toNat=n from ⋯];exact qec ⋯ fun p ys H5 H6 g5 rs hp e=>q3 p ys H5 H6 g5 rs hp e
 have tp4:=tp2.stay g4;have stB:=stA.then g4;dsimp only [List.set];have ln:=rs.length;rw [Bj,Aj,C0] at ln;refine qbw (K:=K) (i:=3) (d:= .tuple [Cod.t0,.tuple [.str "back",.int 0],Cod.t0]) rfl upd_same (Bk (show vs.length<3000 from ⋯) O0) (qL (qd (qL ql) (qd (qL (qd jJ (qd jK ql))) (qd (qL ql) ql)))) fun v H5 g5 rv=>?_;have g45:qk H4 (upd H5 p (.lst (vs++[v]))):=zy ((qe hp _).trans g5) hp;have hp5:=g5 _ _ (upd_same (H:=H4) (a:=p) (o:= .lst vs));have rA:Reps K (upd H5 p (.lst (vs++[v]))) (vs++[v]) (Cod.lgS n r):=(rs.same g45).append (.cons (rv.putL hp5 rfl) .nil);have tp6:=tp4.stay g45;have stC:=stB.then g45;have hL:upd H5 p (.lst (vs++[v])) p=some (.lst (vs++[v])):=upd_same;generalize upd H5 p (.lst (vs++[v]))=H6 at rA tp6 stC hL ⊢;clear g45 hp5 rs rv tp4 stB stA tp2 rr g4 hp g5;refine ⟨(O0:0≤Af),fun e1 he1=>⟨(O0:0≤Af),fun e2 he2=>?_⟩⟩;have gA:=qe he1 (.tup []);have gB:=qe he2 (.tup []);have r1:Rep K (upd H6 e1 (.tup [])) (.ref e1) (.tuple []):= .tup (SqT.of upd_same) .nil;have r2:Rep K (upd (upd H6 e1 (.tup [])) e2 (.tup [])) (.ref e2) (.tuple []):= .tup (SqT.of upd_same) .nil;have r1:=r1.same gB;have gAB:=gA.trans gB;generalize upd (upd H6 e1 (.tup [])) e2 (.tup [])=H7 at r1 r2 gAB ⊢;refine ⟨_,rfl,p,_,rfl,.inl ⟨SqL.of (gAB _ _ hL),fun l hl=>⟨(O0:8≤Af),fun p1 hp1=>⟨(O0:1≤Af),fun p2 hp2=>?_⟩⟩⟩⟩;have gl:=qe hl (.tup (vs++[v]));have g8:=qe hp1 (.tup [.str "main",.non,.int 0,.int 0,.int 1,.ref e1,.ref e2,.ref l]);have g9:=qe hp2 (.tup [.ref p1]);have rl:Rep K (upd H7 l (.tup (vs++[v]))) (.ref l) (.tuple (Cod.lgS n r)):= .tup (SqT.of upd_same) (rA.same (gAB.trans gl));have rp:Rep K (upd (upd H7 l (.tup (vs++[v]))) p1 (.tup [.str "main",.non,.int 0,.int 0,.int 1,.ref e1,.ref e2,.ref l])) (.ref p1) (Cod.lgM n r).data:= .tup (SqT.of upd_same) (.cons (.str _) (.cons .non (.cons (.int _) (.cons (.int _) (.cons (.int _) (.cons (r1.same (gl.trans g8)) (.cons (r2.same (gl.trans g8)) (.cons (rl.same g8) .nil))))))));exact q _ n r _ (stC.then (gAB.trans (gl.trans (g8.trans g9)))) (tp6.stay (gAB.trans (gl.trans (g8.trans g9)))) (.tup (SqT.of upd_same) (.cons (rp.same g9) .nil)) hm ⋯
def spLaw (K:Frag):Sp:=fun vs H Q _=>∃ (a:Ac) (ns:List Int),vs=[.ref a]∧SqL K H a (ns.map V.int)∧ns.length≤63∧∀ H',Q (.bl true) H'
theorem qcb (hs:List Cod.Hd) (sts:List (List Aa)):j9 hs sts=(Cod.vP hs sts).map Cod.Mv.data:=by
 unfold j9 Cod.vP;rw [Bm];rfl
theorem four {i:Nat} (h:i<4):∃ n:Nat,([.int 0,.int 1,.int 2,.int 2]:List Aa)[i]?=some (.int (n:Nat))∧n≤2:=by
 rcases (show i=0∨i=1∨i=2∨i=3 from ⋯) with rfl | rfl | rfl | rfl
 ·exact ⟨0,rfl,O0⟩
 ·exact ⟨1,rfl,O0⟩
 ·exact ⟨2,rfl,O0⟩
 ·exact ⟨2,rfl,O0⟩
theorem XV {σ:St} {H:Hp} {Q:VK} {a t:Ac} (tp:Tp K a 7 H t) (h1:σ[1]?=some (some (.ref t)))
  (q:∀ p v1 v2 ds1 ds2 H1,Tp K a 7 H1 t→Rep K H1 v1 (.tuple ds1)→Rep K H1 v2 (.tuple ds2)→Cod.Cdx ds1→Cod.Cdx ds2→H1 p=none→Q (.ref p) (upd H1 p (.lst [v1,v2]))):
  zK (Itr 0 2) [none,some 1] (qC 0) Jw (jA (Xp K) [] E0 (qw (qG 1) (qw (tOp (rIx K) (v0 (qw (tC (.int 0)) (qw (tC (.int 1)) (qw (tC (.int 2)) (qw (tC (.int 2)) zu))))) (jA (zH K) [] E0 (qw (qG 1) (qw (tC (.int 4)) zu)))) (qw (tOp rEq (jA (zH K) [] E0 (qw (qG 1) (qw (tC (.int 3)) zu))) (tC (.int 0))) zu)))) σ H Q:=by
 obtain ⟨kv,hkv⟩:=tp.dk;refine zd 2 (fun i ys H'=>Tp K a 7 H' t∧∃ dss:List (List Aa),dss.length=i∧Reps K H' ys (dss.map .tuple)∧∀ ds∈dss,Cod.Cdx ds) ⟨tp,[],rfl,.nil,fun _ h=>(nomatch h)⟩ (fun i ys H' h=>?_) O0 (fun i ys H' hi h=>?_) (fun ys H' h=>?_)
 ·obtain ⟨_,dss,rfl,rs,_⟩:=h;rw [rs.length,Aj];exact An _
 ·obtain ⟨tp0,dss,rfl,rs,hc⟩:=h;refine ⟨hi,fun x H2 yl=>?_⟩;obtain ⟨rfl,rfl⟩:=yl;have e1:((zm [none,some 1] σ).set 0 (some (.int ((0:Int)+(dss.length:Nat)))))[1]?=some (some (.ref t)):=by
   show some (σ[1]?.join)=_;rw [h1];rfl
  dsimp only [qC,Jw];refine jk ?_;refine ⟨_,e1,(O0:4≤Af),fun l hl=>?_⟩;have g1:=qe hl (.lst [.int 0,.int 1,.int 2,.int 2]);have rl:Rep K (upd H2 l (.lst [.int 0,.int 1,.int 2,.int 2])) (.ref l) (.list [.int 0,.int 1,.int 2,.int 2]):= .lst (SqL.of upd_same) (.cons (.int _) (.cons (.int _) (.cons (.int _) (.cons (.int _) .nil))));have tp1:=tp0.stay g1;have rs:=rs.same g1;generalize upd H2 l (.lst [.int 0,.int 1,.int 2,.int 2])=H3 at rl tp1 rs ⊢;refine ⟨_,e1,t,4,a,7,rfl,tp1,O0,fun z4 H4 a4 b4 st4 tp4=>?_⟩;obtain ⟨k,rfl⟩:∃ n:Nat,z4=(n:Nat):=⟨z4.toNat,⋯⟩;obtain ⟨n,hn,hn2⟩:=four (i:=k) ⋯;refine ixl (rl.stay st4) hn fun v rv=>?_;cases rv;refine ⟨_,e1,t,3,a,7,rfl,tp4,O0,fun z5 H5 a5 b5 st5 tp5=>⟨rfl,?_⟩⟩;refine ⟨t,a,n,_,rfl,hn2,tp5,fun v6 H6 hs sts st6 tp6 rc l1 l4 el hok hms=>⟨tp6,dss++[j9 hs sts],by rw [Ax];rfl,?_,fun ds hd=>?_⟩⟩
  ·rw [A6];exact (((rs.stay st4).stay st5).stay st6).append (.cons rc .nil)
  ·rcases Az.mp hd with z | z
   ·exact hc ds z
   ·rw [Ay.mp z,qcb];exact Cod.QD hn2 l1 l4 el hok hms
 ·obtain ⟨tp0,dss,hl,rs,hc⟩:=h
  match dss,hl with
  | [d1,d2],_=>
   obtain ⟨v1,_,rfl,r1,rs1⟩:=Js rs;obtain ⟨v2,_,rfl,r2,rs2⟩:=Js rs1;cases jv rs2;exact ⟨An _,fun D hD=>q D v1 v2 d1 d2 H' tp0 r1 r2 (hc d1 (by simp)) (hc d2 (by simp)) hD⟩
theorem qf7 (F:Fun K "law" "law" Vw f fd) (c:Cs K mg ad) (d_law_tape:Def P w K mg base 2 "_law_tape" ["_law_script"] (QZ K)) (d_law_code:Def P w K mg base 3 "_law_code" ["_law_tape_here","_law_least","_law_whole"] (Xp K)) (d_law_draw:Def P w K mg base 1 "_law_draw" ["_law_tape_here","_law_many"] (zH K)) (d_law_pointed:Def P w K mg base 2 "_law_pointed" ["_law_tape_here"] (qhs K)) (d_law_long:Def P w K mg base 2 "_law_long" ["_law_tape_here"] (qht K)) (d_law_is_written:Def P w K mg base 3 "_law_is_written" ["_law_code_here"] (qhm K)) (d_is_sound:Def P w K mg base 12 "is_sound" ["thing"] (spD K Cod.jQ)):FnOkG P w K mg base CX0 13 f fd ["_law_script"] (spLaw K):=by
 refine F.okG Va (fun vs H Q E h=>?_) (fun cdv A outer s H vs Q E hgd hr h=>?_)
 ·obtain ⟨a,ns,rfl,_⟩:=h;rfl
 obtain ⟨a,ns,rfl,hS,_,q⟩:=h;have hu64:(A.deeper (PyProof.Rows.envOfC "law" (qh Vw) s.heap.objs.size f cdv)).units+64<cLine:=by have:=hr.un;omega
 refine ⟨_,(qf (pst 1 Va.nd (pdf d_law_tape (qa (pv 0) qb)))
   (qf (qF (qu ze (pdf d_law_draw (qa (pv 1) (qa qc qb))) qc (qq _)) (qf (pst 2 Va.nd (pdf d_law_long (qa (pv 1) qb)))
   (qf (pst 3 Va.nd (pdf d_is_sound (qa (pv 2) qb)))
   (qg (qm (zC (qt (jl (K:=K) rfl) (by rfl) c.isinstance_ qA (qa (pv 3) (qa (Jh c.bool_ wL) qb))) (zp (zb ze (pv 3) (zb (Wl (K:=K) rfl hu64) (pix K (pix K (pix K (pix K (pv 2) qc) qc) qc) qc) (qi qb) (qq _)) (qq _)))))))) qv)
   (qf (Jk (i:=4) Va.nd rfl (by first | exact Or.inl rfl | exact Or.inr rfl) (sc:=qh Vw) (NX:=["_law_script","_law_tape_here","_law_code_here","_law_found","_law_codes"]) (N:=["_law_k","_law_tape_here"]) (js:=[none,some 1]) (zi rfl c.range_ (qa qc qb)) (fun _ _ _ _ _=>(qx (i:=0) (show (["_law_k","_law_tape_here"]:List Str).Nodup from ∅) rfl (Or.inl rfl))) (fun _ _ _ _ _=>zn) (fun _ _ _ _ _=>(pdf d_law_code (qa (pv 1) (qa (pix K (qT (qa qc (qa qc (qa qc (qa qc qb))))) (pdf d_law_draw (qa (pv 1) (qa qc qb)))) (qa (zb ze (pdf d_law_draw (qa (pv 1) (qa qc qb))) qc (qq _)) qb))))) (qB rfl) ⟨∅,rfl,∅,∅,rfl,∅⟩)
   (qf (qF (qu ze (pdf d_law_draw (qa (pv 1) (qa qc qb))) qc (qq _)) (qg (wY (pdf d_law_pointed (qa (pv 1) qb)) (qar (pv 4) qc Yr))) qv)
   (qf (ji Bt rfl (Jx (K:=K) rfl (qH zk (pv 4) (qZ (WK (K:=K) rfl) (pv 4) Jl (qI qc)))) (pgn 2 Va.nd) (qf (pst 3 Va.nd (pdf d_is_sound (qa (pv 2) qb)))
   (qg (qF (PW.pt (JQ (zo (zh (qt (jl (K:=K) rfl) (by rfl) c.isinstance_ qA (qa (pv 3) (qa (Jh c.bool_ wL) qb))))) (Jf (qu VA (pv 3) (pdf d_law_is_written (qa (pv 2) qb)) (qq _))))) (qg (qm zJ)) qv))))
   (qg (qm zJ))))))),?_⟩
 clear hu64 hr hgd;refine ⟨_,rfl,a,ns,rfl,hS,fun t H1 g1 ht tp1=>?_⟩;clear hS g1 ht;dsimp only [qC];show Jn _ _ _ [some (.ref a),some (.ref t),none,none,none] H1;refine jB fun D1 n1 r1=>vx fun B b1 b2=>⟨_,rfl,t,16,a,7,rfl,tp1,O0,fun z2 H2 a2 b2' st2 tp2=>⟨rfl,_,rfl,?_⟩⟩
 by_cases hz:z2=0
 ·refine bP (show decide _=true from Am (by rw [hz])) (b1 _ ?_)
  refine ⟨_,rfl,t,a,rfl,tp2,fun v n rr H3 st3 tp3 rv hn hr=>?_⟩;refine ⟨_,rfl,v,_,rfl,rv,(Cod.qcd hn hr).fit,fun H4 g4=>?_⟩;rw [Cod.qa8 hn hr];have rv:=rv.same g4;refine ⟨_,rfl,.bl (decide (rr=1)),.bool (decide (rr=1)),"bool",rfl,.bl _,O0,_,rfl,jx rfl ⟨_,rfl,?_⟩⟩;refine ⟨_,rfl,ixr (i:=0) rv rfl fun u1 w1=>ixr (i:=7) w1 rfl fun u2 w2=>ixr (i:=0) w2 rfl fun u3 w3=>ixr (i:=0) w3 rfl fun u4 w4=>⟨(O0:0≤Af),fun p hp=>?_⟩⟩;refine ⟨.tuple (List.replicate rr Cod.wk),.tuple [],w4.same (qe hp _),.tup (SqT.of upd_same) .nil,?_,O0,rfl,?_⟩
  ·rcases (show rr=0∨rr=1 from ⋯) with rfl | rfl <;> decide+kernel
  ·have e:decide (V.bl (decide (rr=1))=V.bl (!PyData.eqv (.tuple (List.replicate rr Cod.wk)) (.tuple [])))=true:=by
    rcases (show rr=0∨rr=1 from ⋯) with rfl | rfl <;> rfl
   rw [e];exact r1 _ _ (q _)
 ·refine bN (show decide _=false from Ao fun z=>hz (V.int.inj z)) (b2 _ (n1 _ _ ?_));clear b1 b2 B n1 r1 D1;refine ⟨2,rfl,O0,O0,XV tp2 rfl fun p v1 v2 ds1 ds2 H3 tp3 rv1 rv2 cx1 cx2 hp=>?_⟩;have g3:=qe hp (.lst [v1,v2]);have tp4:=tp3.stay g3;have rv1:=rv1.same g3;have rv2:=rv2.same g3;have hp4:upd H3 p (.lst [v1,v2]) p=some (.lst [v1,v2]):=upd_same;generalize upd H3 p (.lst [v1,v2])=H4 at tp4 rv1 rv2 hp4 ⊢;clear tp3 hp g3 tp2 st2 tp1;dsimp only [qC,List.set];refine jB fun D2 n2 r2=>?_;have fin:∀ {J:Hp} {v1 v2:V} {ds1 ds2:List Aa},J p=some (.lst [v1,v2])→Rep K J v1 (.tuple ds1)→Rep K J v2 (.tuple ds2)→Cod.Cdx ds1→Cod.Cdx ds2→D2.nx [some (.ref a),some (.ref t),none,none,some (.ref p)] J:=fun {J v1 v2 ds1 ds2} hJ w1 w2 c1 c2=>n2 _ _ (by
   refine jB fun D3 n3 r3=>?_;have ec:JX [v1,v2] none (some 1)=[v1]:=qg0 (n:=1);refine ⟨_,rfl,_,rfl,_,rfl,.inl ⟨p,_,rfl,SqL.of hJ,fun l hl=>?_⟩⟩;rw [ec];have g1:=qe hl (.lst [v1]);refine XX (g1 _ _ hJ) upd_same (O0:3≤Af) fun p3 hp3=>?_;have g2:=g1.trans (qe hp3 (.lst ([v1,v2]++[v1])));have w1:=w1.same g2;have w2:=w2.same g2;have h3:upd (upd J l (.lst [v1])) p3 (.lst ([v1,v2]++[v1])) p3=some (.lst [v1,v2,v1]):=upd_same;generalize upd (upd J l (.lst [v1])) p3 (.lst ([v1,v2]++[v1]))=J3 at w1 w2 h3 ⊢;refine .inl ⟨p3,rfl,⟨_,SqL.of h3⟩,jn 3 (fun i σ J'=>qk J3 J'∧∃ o2 o3:Option V,σ=[some (.ref a),some (.ref t),o2,o3,some (.ref p)]) ⟨qk.refl _,none,none,rfl⟩ (fun i σ J' hi h=>?_) (fun σ J' h=>?_)⟩
   ·obtain ⟨g,o2,o3,rfl⟩:=h;obtain ⟨v,ds,hv,rv,cx⟩:∃ v ds,[v1,v2,v1][i]?=some v∧Rep K J3 v (.tuple ds)∧Cod.Cdx ds:=by
     rcases (show i=0∨i=1∨i=2 from ⋯) with rfl | rfl | rfl
     ·exact ⟨v1,ds1,rfl,w1,c1⟩
     ·exact ⟨v2,ds2,rfl,w2,c2⟩
     ·exact ⟨v1,ds1,rfl,w1,c1⟩
    refine ⟨⟨_,_,SqL.of (g _ _ h3),hv⟩,fun x H6 yl N hN=>?_⟩;obtain ⟨rfl,e6⟩:=yl;have e6:=e6 _ (SqL.of (g _ _ h3));rw [hv] at e6;cases e6;refine ⟨_,rfl,v,_,rfl,rv.same g,cx.fit,fun H7 g7=>?_⟩;dsimp only [qC,List.set];refine vx fun B b1 b2=>?_;refine ⟨_,rfl,.bl (Cod.jQ (.tuple ds)),.bool (Cod.jQ (.tuple ds)),"bool",rfl,.bl _,O0,_,rfl,?_⟩;refine jo rfl ⟨_,rfl,_,rfl,v,ds,rfl,(rv.same g).same g7,fun d hd=>?_,fun b H8 g8 hb=>⟨rfl,_,rfl,?_⟩⟩
    ·obtain ⟨a,b,sts,mw,_⟩:=Cod.Yg cx.code d hd;exact ⟨a,b,sts,mw⟩
    ·have eb:b=Cod.jQ (.tuple ds):=by
      rw [Bn,hb,Cod.ZZ cx.code]
     rw [eb];refine bN (show (!decide _)=false from by rw [Am rfl];rfl) (b2 _ (hN _ _ ⟨g.trans (g7.trans g8),_,_,rfl⟩))
   ·obtain ⟨g,o2,o3,rfl⟩:=h;exact ⟨⟨_,SqL.of (g _ _ h3),An _⟩,n3 _ _ (q _)⟩)
  refine vx fun B b1 b2=>⟨_,rfl,t,2,a,7,rfl,tp4,O0,fun z5 H5 a5 b5 st5 tp5=>⟨rfl,_,rfl,?_⟩⟩;have rv1:=rv1.stay st5;have rv2:=rv2.stay st5;have hp5:H5 p=some (.lst [v1,v2]):=by
   obtain ⟨kv,hkv⟩:=tp4.dk;exact st5.rest p _ (qa3 hp4 hkv (by intro z;cases z)) hp4
  by_cases hz5:z5=0
  ·refine bP (show decide _=true from Am (by rw [hz5])) (b1 _ ?_)
   refine ⟨_,rfl,t,a,rfl,tp5,fun v6 ds6 H6 st6 tp6 rv6 cx6=>?_⟩;have hp6:H6 p=some (.lst [v1,v2]):=by
    obtain ⟨kv,hkv⟩:=tp5.dk;exact st6.rest p _ (qa3 hp5 hkv (by intro z;cases z)) hp5
   refine ⟨_,rfl,p,_,0,0,rfl,rfl,hp6,rfl,?_⟩;exact fin upd_same (rv6.putL hp6 cx6.noL) ((rv2.stay st6).putL hp6 cx2.noL) cx6 cx2
  ·refine bN (show decide _=false from Ao fun z=>hz5 (V.int.inj z)) (b2 _ (fin hp5 rv1 rv2 cx1 cx2))
end
theorem qha {l:PySem.W.OpenLaw} {w:World} {K:Frag} {h:Heap} {mg:Str→Option Ab} {fa f0 f1 f2 f3 f4 f5 f6 f7 f8 f9 f10 f11 f12 f13 f14 f15 f16 f17 f18 f19 f20 f21 f22 f23 f24 f25 f26 f27 f28 f29 f30 f31 f32 f33 f34 f35 f36 f37 f38 f39 f40 f41 f42 f43 f44 f45 f46 f47:Ac} (X:K.In h) (G:h.Ns Ap mg) (hfa:mg "law"=some (.ref fa))
  {c_Passage:Ac}
  {a_SIGNS:Ac} {n_SIGNS:Nat} {k_SIGNS_0 k_SIGNS_1 k_SIGNS_2 k_SIGNS_3 k_SIGNS_4:Tok} {a_ROW_HEADS:Ac} {n_ROW_HEADS:Nat} {k_ROW_HEADS_0 k_ROW_HEADS_1 k_ROW_HEADS_2 k_ROW_HEADS_3 k_ROW_HEADS_4:Tok} {a_END_HEADS:Ac} {n_END_HEADS:Nat} {k_END_HEADS_0 k_END_HEADS_1 k_END_HEADS_2 k_END_HEADS_3 k_END_HEADS_4 k_END_HEADS_5 k_END_HEADS_6 k_END_HEADS_7:Tok} {a_CODE_FORMS:Ac} {n_CODE_FORMS:Nat} {k_CODE_FORMS_0 k_CODE_FORMS_1 k_CODE_FORMS_2 k_CODE_FORMS_3 k_CODE_FORMS_4 k_CODE_FORMS_5 k_CODE_FORMS_6 k_CODE_FORMS_7 k_CODE_FORMS_8 k_CODE_FORMS_9 k_CODE_FORMS_10 k_CODE_FORMS_11 k_CODE_FORMS_12:Tok} {a_CODE_FORMS0:Ac} {n_CODE_FORMS0:Nat} {k_CODE_FORMS0_0 k_CODE_FORMS0_1:Tok} {a_CODE_FORMS1:Ac} {n_CODE_FORMS1:Nat} {k_CODE_FORMS1_0 k_CODE_FORMS1_1:Tok} {a_CODE_FORMS2:Ac} {n_CODE_FORMS2:Nat} {k_CODE_FORMS2_0 k_CODE_FORMS2_1:Tok} {a_CODE_FORMS3:Ac} {n_CODE_FORMS3:Nat} {k_CODE_FORMS3_0 k_CODE_FORMS3_1 k_CODE_FORMS3_2 k_CODE_FORMS3_3:Tok} {a_CODE_FORMS4:Ac} {n_CODE_FORMS4:Nat} {k_CODE_FORMS4_0 k_CODE_FORMS4_1:Tok} {a_CODE_FORMS5:Ac} {n_CODE_FORMS5:Nat} {k_CODE_FORMS5_0:Tok} {a_CODE_FORMS6:Ac} {n_CODE_FORMS6:Nat} {k_CODE_FORMS6_0 k_CODE_FORMS6_1 k_CODE_FORMS6_2:Tok} {a_CODE_FORMS7:Ac} {n_CODE_FORMS7:Nat} {k_CODE_FORMS7_0:Tok} {a_CODE_FORMS8:Ac} {n_CODE_FORMS8:Nat} {k_CODE_FORMS8_0 k_CODE_FORMS8_1 k_CODE_FORMS8_2 k_CODE_FORMS8_3:Tok} {a_CODE_FORMS9:Ac} {n_CODE_FORMS9:Nat} {k_CODE_FORMS9_0 k_CODE_FORMS9_1 k_CODE_FORMS9_2 k_CODE_FORMS9_3:Tok} {a_CODE_FORMS10:Ac} {n_CODE_FORMS10:Nat} {k_CODE_FORMS10_0 k_CODE_FORMS10_1:Tok} {a_CODE_FORMS11:Ac} {n_CODE_FORMS11:Nat} {k_CODE_FORMS11_0:Tok} {a_CODE_FORMS12:Ac} {n_CODE_FORMS12:Nat} {k_CODE_FORMS12_0 k_CODE_FORMS12_1:Tok} {a_CATCH_SHAPES:Ac} {n_CATCH_SHAPES:Nat} {k_CATCH_SHAPES_0 k_CATCH_SHAPES_1 k_CATCH_SHAPES_2:Tok}
  {t_MOST_LETTERS t_GREATEST_NUMBER t_BOXED t_TAKEN t_NAMES t_SLOTS t_MOST_PARAMS t_STATES t_OUTER t_KIND t_ROWS t_CATCHES t_STATE_LENGTH t_MOST_ROWS t_MOST_CATCHES t_END t_PARAMS t_MOST_SLOTS t_MACHINE_LENGTH t_MOST_STATES t_MOST_MACHINES:Tok}
  (a0:PySem.W.nsIn K Ap "is_name"=some (some (.ref f0))) (l0:FA K f0 "is_name" "is_name" vR)
  (a1:PySem.W.nsIn K Ap "is_number"=some (some (.ref f1))) (l1:FA K f1 "is_number" "is_number" vD)
  (a2:PySem.W.nsIn K Ap "is_whole"=some (some (.ref f2))) (l2:FA K f2 "is_whole" "is_whole" Vd)
  (a3:PySem.W.nsIn K Ap "is_index"=some (some (.ref f3))) (l3:FA K f3 "is_index" "is_index" Vg)
  (a4:PySem.W.nsIn K Ap "is_tuple"=some (some (.ref f4))) (l4:FA K f4 "is_tuple" "is_tuple" Ve)
  (a5:PySem.W.nsIn K Ap "is_member"=some (some (.ref f5))) (l5:FA K f5 "is_member" "is_member" vF)
  (a6:PySem.W.nsIn K Ap "is_pair"=some (some (.ref f6))) (l6:FA K f6 "is_pair" "is_pair" VQ)
  (a7:PySem.W.nsIn K Ap "is_far_place"=some (some (.ref f7))) (l7:FA K f7 "is_far_place" "is_far_place" Jq)
  (a8:PySem.W.nsIn K Ap "is_place"=some (some (.ref f8))) (l8:FA K f8 "is_place" "is_place" Vf)
  (a9:PySem.W.nsIn K Ap "is_middle"=some (some (.ref f9))) (l9:FA K f9 "is_middle" "is_middle" vE)
  (a10:PySem.W.nsIn K Ap "has_shape"=some (some (.ref f10))) (l10:FA K f10 "has_shape" "has_shape" JE)
  (a11:PySem.W.nsIn K Ap "have_shapes"=some (some (.ref f11))) (l11:FA K f11 "have_shapes" "have_shapes" j2)
  (a12:PySem.W.nsIn K Ap "has_form"=some (some (.ref f12))) (l12:FA K f12 "has_form" "has_form" Vi)
  (a13:PySem.W.nsIn K Ap "is_row"=some (some (.ref f13))) (l13:FA K f13 "is_row" "is_row" wV)
  (a14:PySem.W.nsIn K Ap "is_end"=some (some (.ref f14))) (l14:FA K f14 "is_end" "is_end" wW)
  (a15:PySem.W.nsIn K Ap "is_catch"=some (some (.ref f15))) (l15:FA K f15 "is_catch" "is_catch" Vh)
  (a16:PySem.W.nsIn K Ap "is_state"=some (some (.ref f16))) (l16:FA K f16 "is_state" "is_state" Jp)
  (a17:PySem.W.nsIn K Ap "has_place_in_code"=some (some (.ref f17))) (l17:FA K f17 "has_place_in_code" "has_place_in_code" jh)
  (a18:PySem.W.nsIn K Ap "has_counts"=some (some (.ref f18))) (l18:FA K f18 "has_counts" "has_counts" J5)
  (a19:PySem.W.nsIn K Ap "is_rising"=some (some (.ref f19))) (l19:FA K f19 "is_rising" "is_rising" j7)
  (a20:PySem.W.nsIn K Ap "has_outer_form"=some (some (.ref f20))) (l20:FA K f20 "has_outer_form" "has_outer_form" jS)
  (a21:PySem.W.nsIn K Ap "has_inner_form"=some (some (.ref f21))) (l21:FA K f21 "has_inner_form" "has_inner_form" zM)
  (a22:PySem.W.nsIn K Ap "is_code"=some (some (.ref f22))) (l22:FA K f22 "is_code" "is_code" JO)
  (a23:PySem.W.nsIn K Ap "bits_of"=some (some (.ref f23))) (l23:FA K f23 "bits_of" "bits_of" VR)
  (a24:PySem.W.nsIn K Ap "slots_read"=some (some (.ref f24))) (l24:FA K f24 "slots_read" "slots_read" J0)
  (a25:PySem.W.nsIn K Ap "slots_written"=some (some (.ref f25))) (l25:FA K f25 "slots_written" "slots_written" jp)
  (a26:PySem.W.nsIn K Ap "states_named"=some (some (.ref f26))) (l26:FA K f26 "states_named" "states_named" jC)
  (a27:PySem.W.findIn K (.ref c_Passage) "__init__"=some (some (.ref f27))) (i27:PySem.W.isFn K (.ref f27)=true) (l27:FA K f27 "__init__" "Passage.__init__" Vx)
  (a28:PySem.W.findIn K (.ref c_Passage) "need_slots"=some (some (.ref f28))) (i28:PySem.W.isFn K (.ref f28)=true) (l28:FA K f28 "need_slots" "Passage.need_slots" Jr)
  (a29:PySem.W.findIn K (.ref c_Passage) "end_so"=some (some (.ref f29))) (i29:PySem.W.isFn K (.ref f29)=true) (l29:FA K f29 "end_so" "Passage.end_so" Vj)
  (a30:PySem.W.nsIn K Ap "written_ahead"=some (some (.ref f30))) (l30:FA K f30 "written_ahead" "written_ahead" Jc)
  (a31:PySem.W.nsIn K Ap "reads_well"=some (some (.ref f31))) (l31:FA K f31 "reads_well" "reads_well" jD)
  (a32:PySem.W.nsIn K Ap "is_sound"=some (some (.ref f32))) (l32:FA K f32 "is_sound" "is_sound" J4)
  (a33:PySem.W.nsIn K Ap "_law_draw"=some (some (.ref f33))) (l33:FA K f33 "_law_draw" "_law_draw" Vc)
  (a34:PySem.W.nsIn K Ap "_law_tape"=some (some (.ref f34))) (l34:FA K f34 "_law_tape" "_law_tape" J1)
  (a35:PySem.W.nsIn K Ap "_law_places"=some (some (.ref f35))) (l35:FA K f35 "_law_places" "_law_places" jc)
  (a36:PySem.W.nsIn K Ap "_law_heads"=some (some (.ref f36))) (l36:FA K f36 "_law_heads" "_law_heads" jy)
  (a37:PySem.W.nsIn K Ap "_law_row_by"=some (some (.ref f37))) (l37:FA K f37 "_law_row_by" "_law_row_by" jE)
  (a38:PySem.W.nsIn K Ap "_law_end_by"=some (some (.ref f38))) (l38:FA K f38 "_law_end_by" "_law_end_by" jF)
  (a39:PySem.W.nsIn K Ap "_law_code"=some (some (.ref f39))) (l39:FA K f39 "_law_code" "_law_code" jR)
  (a40:PySem.W.nsIn K Ap "_law_row_reads"=some (some (.ref f40))) (l40:FA K f40 "_law_row_reads" "_law_row_reads" Jd)
  (a41:PySem.W.nsIn K Ap "_law_end_reads"=some (some (.ref f41))) (l41:FA K f41 "_law_end_reads" "_law_end_reads" Je)
  (a42:PySem.W.nsIn K Ap "_law_goes"=some (some (.ref f42))) (l42:FA K f42 "_law_goes" "_law_goes" Vb)
  (a43:PySem.W.nsIn K Ap "_law_unwritten"=some (some (.ref f43))) (l43:FA K f43 "_law_unwritten" "_law_unwritten" jq)
  (a44:PySem.W.nsIn K Ap "_law_is_written"=some (some (.ref f44))) (l44:FA K f44 "_law_is_written" "_law_is_written" jd)
  (a45:PySem.W.nsIn K Ap "_law_pointed"=some (some (.ref f45))) (l45:FA K f45 "_law_pointed" "_law_pointed" JL)
  (a46:PySem.W.nsIn K Ap "_law_long"=some (some (.ref f46))) (l46:FA K f46 "_law_long" "_law_long" J2)
  (a47:PySem.W.nsIn K Ap "law"=some (some (.ref f47))) (l47:FA K f47 "law" "law" Vw)
  (z_all:PySem.W.nsIn K Ap "all"=some none)
  (z_isinstance:PySem.W.nsIn K Ap "isinstance"=some none)
  (z_str:PySem.W.nsIn K Ap "str"=some none)
  (z_len:PySem.W.nsIn K Ap "len"=some none)
  (z_bool:PySem.W.nsIn K Ap "bool"=some none)
  (z_int:PySem.W.nsIn K Ap "int"=some none)
  (z_tuple:PySem.W.nsIn K Ap "tuple"=some none)
  (z_zip:PySem.W.nsIn K Ap "zip"=some none)
  (z_min:PySem.W.nsIn K Ap "min"=some none)
  (z_range:PySem.W.nsIn K Ap "range"=some none)
  (z_enumerate:PySem.W.nsIn K Ap "enumerate"=some none)
  (z_list:PySem.W.nsIn K Ap "list"=some none)
  (g_MOST_LETTERS:PySem.W.nsIn K Ap "MOST_LETTERS"=some (some (.int 8 t_MOST_LETTERS)))
  (g_GREATEST_NUMBER:PySem.W.nsIn K Ap "GREATEST_NUMBER"=some (some (.int 1000000000000 t_GREATEST_NUMBER)))
  (g_BOXED:PySem.W.nsIn K Ap "BOXED"=some (some (.int 5 t_BOXED)))
  (g_TAKEN:PySem.W.nsIn K Ap "TAKEN"=some (some (.int 6 t_TAKEN)))
  (g_NAMES:PySem.W.nsIn K Ap "NAMES"=some (some (.int 3 t_NAMES)))
  (g_SLOTS:PySem.W.nsIn K Ap "SLOTS"=some (some (.int 4 t_SLOTS)))
  (g_MOST_PARAMS:PySem.W.nsIn K Ap "MOST_PARAMS"=some (some (.int 4 t_MOST_PARAMS)))
  (g_STATES:PySem.W.nsIn K Ap "STATES"=some (some (.int 7 t_STATES)))
  (g_OUTER:PySem.W.nsIn K Ap "OUTER"=some (some (.int 1 t_OUTER)))
  (g_KIND:PySem.W.nsIn K Ap "KIND"=some (some (.int 0 t_KIND)))
  (g_ROWS:PySem.W.nsIn K Ap "ROWS"=some (some (.int 0 t_ROWS)))
  (g_CATCHES:PySem.W.nsIn K Ap "CATCHES"=some (some (.int 2 t_CATCHES)))
  (g_STATE_LENGTH:PySem.W.nsIn K Ap "STATE_LENGTH"=some (some (.int 3 t_STATE_LENGTH)))
  (g_MOST_ROWS:PySem.W.nsIn K Ap "MOST_ROWS"=some (some (.int 1000 t_MOST_ROWS)))
  (g_MOST_CATCHES:PySem.W.nsIn K Ap "MOST_CATCHES"=some (some (.int 20 t_MOST_CATCHES)))
  (g_END:PySem.W.nsIn K Ap "END"=some (some (.int 1 t_END)))
  (g_PARAMS:PySem.W.nsIn K Ap "PARAMS"=some (some (.int 2 t_PARAMS)))
  (g_MOST_SLOTS:PySem.W.nsIn K Ap "MOST_SLOTS"=some (some (.int 1000 t_MOST_SLOTS)))
  (g_MACHINE_LENGTH:PySem.W.nsIn K Ap "MACHINE_LENGTH"=some (some (.int 8 t_MACHINE_LENGTH)))
  (g_MOST_STATES:PySem.W.nsIn K Ap "MOST_STATES"=some (some (.int 2000 t_MOST_STATES)))
  (g_MOST_MACHINES:PySem.W.nsIn K Ap "MOST_MACHINES"=some (some (.int 300 t_MOST_MACHINES)))
  (n_Passage:PySem.W.nsIn K Ap "Passage"=some (some (.ref c_Passage)))
  (h_pg:PySem.W.plainGet K c_Passage Str.empty=true)
  (h_hd:PySem.W.hasDictIn K c_Passage=true)
  (h_po:PySem.W.plainOver K c_Passage=true)
  (h_sa:PySem.W.findIn K (.ref c_Passage) "__setattr__"=some (some (.builtin "object.__setattr__")))
  (h_aN:PySem.W.findIn K (.ref c_Passage) "needed"=some none)
  (h_aW:PySem.W.findIn K (.ref c_Passage) "written"=some none)
  (h_aY:PySem.W.findIn K (.ref c_Passage) "ways"=some none)
  (h_mk:PySem.W.makesIn K c_Passage=true)
  (h_kc:PySem.W.keepIn K (.ref c_Passage)=true)
  (g_SIGNS:PySem.W.nsIn K Ap "SIGNS"=some (some (.ref a_SIGNS)))
  (l_SIGNS:K.lookup a_SIGNS=some {cls:= .type "tuple",data:= .seq ([.str "+" k_SIGNS_0,.str "-" k_SIGNS_1,.str "*" k_SIGNS_2,.str "<" k_SIGNS_3,.str "=" k_SIGNS_4]:List Ab).toArray n_SIGNS})
  (g_ROW_HEADS:PySem.W.nsIn K Ap "ROW_HEADS"=some (some (.ref a_ROW_HEADS)))
  (l_ROW_HEADS:K.lookup a_ROW_HEADS=some {cls:= .type "tuple",data:= .seq ([.str "number" k_ROW_HEADS_0,.str "read" k_ROW_HEADS_1,.str "write" k_ROW_HEADS_2,.str "two" k_ROW_HEADS_3,.str "make" k_ROW_HEADS_4]:List Ab).toArray n_ROW_HEADS})
  (g_END_HEADS:PySem.W.nsIn K Ap "END_HEADS"=some (some (.ref a_END_HEADS)))
  (l_END_HEADS:K.lookup a_END_HEADS=some {cls:= .type "tuple",data:= .seq ([.str "go" k_END_HEADS_0,.str "if" k_END_HEADS_1,.str "while" k_END_HEADS_2,.str "call" k_END_HEADS_3,.str "step" k_END_HEADS_4,.str "hand" k_END_HEADS_5,.str "back" k_END_HEADS_6,.str "fault" k_END_HEADS_7]:List Ab).toArray n_END_HEADS})
  (g_CODE_FORMS:PySem.W.nsIn K Ap "CODE_FORMS"=some (some (.ref a_CODE_FORMS)))
  (l_CODE_FORMS:K.lookup a_CODE_FORMS=some {cls:= .type "dict",data:= .dict ([⟨PyData.keyHash w.params "number",.str "number" k_CODE_FORMS_0,.ref a_CODE_FORMS0⟩,⟨PyData.keyHash w.params "read",.str "read" k_CODE_FORMS_1,.ref a_CODE_FORMS1⟩,⟨PyData.keyHash w.params "write",.str "write" k_CODE_FORMS_2,.ref a_CODE_FORMS2⟩,⟨PyData.keyHash w.params "two",.str "two" k_CODE_FORMS_3,.ref a_CODE_FORMS3⟩,⟨PyData.keyHash w.params "make",.str "make" k_CODE_FORMS_4,.ref a_CODE_FORMS4⟩,⟨PyData.keyHash w.params "go",.str "go" k_CODE_FORMS_5,.ref a_CODE_FORMS5⟩,⟨PyData.keyHash w.params "if",.str "if" k_CODE_FORMS_6,.ref a_CODE_FORMS6⟩,⟨PyData.keyHash w.params "while",.str "while" k_CODE_FORMS_7,.ref a_CODE_FORMS7⟩,⟨PyData.keyHash w.params "call",.str "call" k_CODE_FORMS_8,.ref a_CODE_FORMS8⟩,⟨PyData.keyHash w.params "step",.str "step" k_CODE_FORMS_9,.ref a_CODE_FORMS9⟩,⟨PyData.keyHash w.params "hand",.str "hand" k_CODE_FORMS_10,.ref a_CODE_FORMS10⟩,⟨PyData.keyHash w.params "back",.str "back" k_CODE_FORMS_11,.ref a_CODE_FORMS11⟩,⟨PyData.keyHash w.params "fault",.str "fault" k_CODE_FORMS_12,.ref a_CODE_FORMS12⟩]:List DictEntry).toArray n_CODE_FORMS})
  (l_CODE_FORMS0:K.lookup a_CODE_FORMS0=some {cls:= .type "tuple",data:= .seq ([.str "to" k_CODE_FORMS0_0,.str "number" k_CODE_FORMS0_1]:List Ab).toArray n_CODE_FORMS0})
  (l_CODE_FORMS1:K.lookup a_CODE_FORMS1=some {cls:= .type "tuple",data:= .seq ([.str "to" k_CODE_FORMS1_0,.str "place" k_CODE_FORMS1_1]:List Ab).toArray n_CODE_FORMS1})
  (l_CODE_FORMS2:K.lookup a_CODE_FORMS2=some {cls:= .type "tuple",data:= .seq ([.str "place" k_CODE_FORMS2_0,.str "of" k_CODE_FORMS2_1]:List Ab).toArray n_CODE_FORMS2})
  (l_CODE_FORMS3:K.lookup a_CODE_FORMS3=some {cls:= .type "tuple",data:= .seq ([.str "to" k_CODE_FORMS3_0,.str "sign" k_CODE_FORMS3_1,.str "of" k_CODE_FORMS3_2,.str "of" k_CODE_FORMS3_3]:List Ab).toArray n_CODE_FORMS3})
  (l_CODE_FORMS4:K.lookup a_CODE_FORMS4=some {cls:= .type "tuple",data:= .seq ([.str "to" k_CODE_FORMS4_0,.str "machine" k_CODE_FORMS4_1]:List Ab).toArray n_CODE_FORMS4})
  (l_CODE_FORMS5:K.lookup a_CODE_FORMS5=some {cls:= .type "tuple",data:= .seq ([.str "state" k_CODE_FORMS5_0]:List Ab).toArray n_CODE_FORMS5})
  (l_CODE_FORMS6:K.lookup a_CODE_FORMS6=some {cls:= .type "tuple",data:= .seq ([.str "of" k_CODE_FORMS6_0,.str "state" k_CODE_FORMS6_1,.str "state" k_CODE_FORMS6_2]:List Ab).toArray n_CODE_FORMS6})
  (l_CODE_FORMS7:K.lookup a_CODE_FORMS7=some {cls:= .type "tuple",data:= .seq ([.str "state" k_CODE_FORMS7_0]:List Ab).toArray n_CODE_FORMS7})
  (l_CODE_FORMS8:K.lookup a_CODE_FORMS8=some {cls:= .type "tuple",data:= .seq ([.str "to" k_CODE_FORMS8_0,.str "of" k_CODE_FORMS8_1,.str "args" k_CODE_FORMS8_2,.str "state" k_CODE_FORMS8_3]:List Ab).toArray n_CODE_FORMS8})
  (l_CODE_FORMS9:K.lookup a_CODE_FORMS9=some {cls:= .type "tuple",data:= .seq ([.str "to" k_CODE_FORMS9_0,.str "of" k_CODE_FORMS9_1,.str "state" k_CODE_FORMS9_2,.str "state" k_CODE_FORMS9_3]:List Ab).toArray n_CODE_FORMS9})
  (l_CODE_FORMS10:K.lookup a_CODE_FORMS10=some {cls:= .type "tuple",data:= .seq ([.str "of" k_CODE_FORMS10_0,.str "state" k_CODE_FORMS10_1]:List Ab).toArray n_CODE_FORMS10})
  (l_CODE_FORMS11:K.lookup a_CODE_FORMS11=some {cls:= .type "tuple",data:= .seq ([.str "last" k_CODE_FORMS11_0]:List Ab).toArray n_CODE_FORMS11})
  (l_CODE_FORMS12:K.lookup a_CODE_FORMS12=some {cls:= .type "tuple",data:= .seq ([.str "fault word" k_CODE_FORMS12_0,.str "of" k_CODE_FORMS12_1]:List Ab).toArray n_CODE_FORMS12})
  (g_CATCH_SHAPES:PySem.W.nsIn K Ap "CATCH_SHAPES"=some (some (.ref a_CATCH_SHAPES)))
  (l_CATCH_SHAPES:K.lookup a_CATCH_SHAPES=some {cls:= .type "tuple",data:= .seq ([.str "word" k_CATCH_SHAPES_0,.str "place" k_CATCH_SHAPES_1,.str "state" k_CATCH_SHAPES_2]:List Ab).toArray n_CATCH_SHAPES}):
  ∃ fd:FuncData,(∀ (s:Ae) (v:Ab),BindsTo s fd ⟨[v],[]⟩ [("_law_script",v)])∧∀ base:Heap,K.In base→base.Ns Ap mg→FnOkG l.prog w K mg base CX0 13 fa fd ["_law_script"] (spLaw K):=by
 have e:=hfa.symm.trans (Aq X G a47);cases e;obtain ⟨_,kV47,dc47,pm47,an47,cd47,ct47,_,l47,c47,k47⟩:=l47;have c:Cs K mg ⟨c_Passage⟩:=⟨B7 X G z_all,B7 X G z_isinstance,B7 X G z_str,B7 X G z_len,B7 X G z_bool,B7 X G z_int,B7 X G z_tuple,B7 X G z_zip,B7 X G z_min,B7 X G z_range,B7 X G z_enumerate,B7 X G z_list,⟨_,Aq X G g_MOST_LETTERS,⟨_,rfl⟩⟩,⟨_,Aq X G g_GREATEST_NUMBER,⟨_,rfl⟩⟩,⟨_,Aq X G g_BOXED,⟨_,rfl⟩⟩,⟨_,Aq X G g_TAKEN,⟨_,rfl⟩⟩,⟨_,Aq X G g_NAMES,⟨_,rfl⟩⟩,⟨_,Aq X G g_SLOTS,⟨_,rfl⟩⟩,⟨_,Aq X G g_MOST_PARAMS,⟨_,rfl⟩⟩,⟨_,Aq X G g_STATES,⟨_,rfl⟩⟩,⟨_,Aq X G g_OUTER,⟨_,rfl⟩⟩,⟨_,Aq X G g_KIND,⟨_,rfl⟩⟩,⟨_,Aq X G g_ROWS,⟨_,rfl⟩⟩,⟨_,Aq X G g_CATCHES,⟨_,rfl⟩⟩,⟨_,Aq X G g_STATE_LENGTH,⟨_,rfl⟩⟩,⟨_,Aq X G g_MOST_ROWS,⟨_,rfl⟩⟩,⟨_,Aq X G g_MOST_CATCHES,⟨_,rfl⟩⟩,⟨_,Aq X G g_END,⟨_,rfl⟩⟩,⟨_,Aq X G g_PARAMS,⟨_,rfl⟩⟩,⟨_,Aq X G g_MOST_SLOTS,⟨_,rfl⟩⟩,⟨_,Aq X G g_MACHINE_LENGTH,⟨_,rfl⟩⟩,⟨_,Aq X G g_MOST_STATES,⟨_,rfl⟩⟩,⟨_,Aq X G g_MOST_MACHINES,⟨_,rfl⟩⟩,Aq X G n_Passage,⟨h_pg,h_hd,h_po,h_sa⟩,h_aN,h_aW,h_aY,h_mk,h_kc⟩;refine ⟨PySem.W.fnOf "law" "law" (j5 Vw) (ju Vw) (qh Vw) .none kV47 dc47 pm47 an47 cd47 ct47,fun s v=> .of_eq rfl,fun base _ _=>?_⟩;have T:Tb l.prog w K mg:=⟨⟨_,Aq X G g_SIGNS,(zX (l:=["+","-","*","<","="]) l_SIGNS (.cons ⟨_,rfl⟩ (.cons ⟨_,rfl⟩ (.cons ⟨_,rfl⟩ (.cons ⟨_,rfl⟩ (.cons ⟨_,rfl⟩ .nil))))) (O0:(5:Nat)≤1000))⟩,⟨_,Aq X G g_ROW_HEADS,(zX (l:=["number","read","write","two","make"]) l_ROW_HEADS (.cons ⟨_,rfl⟩ (.cons ⟨_,rfl⟩ (.cons ⟨_,rfl⟩ (.cons ⟨_,rfl⟩ (.cons ⟨_,rfl⟩ .nil))))) (O0:(5:Nat)≤1000))⟩,⟨_,Aq X G g_END_HEADS,(zX (l:=["go","if","while","call","step","hand","back","fault"]) l_END_HEADS (.cons ⟨_,rfl⟩ (.cons ⟨_,rfl⟩ (.cons ⟨_,rfl⟩ (.cons ⟨_,rfl⟩ (.cons ⟨_,rfl⟩ (.cons ⟨_,rfl⟩ (.cons ⟨_,rfl⟩ (.cons ⟨_,rfl⟩ .nil)))))))) (O0:(8:Nat)≤1000))⟩,⟨_,_,Aq X G g_CODE_FORMS,qbd l_CODE_FORMS (.cons (.cons (.cons (.cons (.cons (.cons (.cons (.cons (.cons (.cons (.cons (.cons (.cons .nil))))))))))))) (show (["number","read","write","two","make","go","if","while","call","step","hand","back","fault"]:List Str).Nodup from ∅),(.cons (zX (l:=["to","number"]) l_CODE_FORMS0 (.cons ⟨_,rfl⟩ (.cons ⟨_,rfl⟩ .nil)) (O0:(2:Nat)≤1000)) (.cons (zX (l:=["to","place"]) l_CODE_FORMS1 (.cons ⟨_,rfl⟩ (.cons ⟨_,rfl⟩ .nil)) (O0:(2:Nat)≤1000)) (.cons (zX (l:=["place","of"]) l_CODE_FORMS2 (.cons ⟨_,rfl⟩ (.cons ⟨_,rfl⟩ .nil)) (O0:(2:Nat)≤1000)) (.cons (zX (l:=["to","sign","of","of"]) l_CODE_FORMS3 (.cons ⟨_,rfl⟩ (.cons ⟨_,rfl⟩ (.cons ⟨_,rfl⟩ (.cons ⟨_,rfl⟩ .nil)))) (O0:(4:Nat)≤1000)) (.cons (zX (l:=["to","machine"]) l_CODE_FORMS4 (.cons ⟨_,rfl⟩ (.cons ⟨_,rfl⟩ .nil)) (O0:(2:Nat)≤1000)) (.cons (zX (l:=["state"]) l_CODE_FORMS5 (.cons ⟨_,rfl⟩ .nil) (O0:(1:Nat)≤1000)) (.cons (zX (l:=["of","state","state"]) l_CODE_FORMS6 (.cons ⟨_,rfl⟩ (.cons ⟨_,rfl⟩ (.cons ⟨_,rfl⟩ .nil))) (O0:(3:Nat)≤1000)) (.cons (zX (l:=["state"]) l_CODE_FORMS7 (.cons ⟨_,rfl⟩ .nil) (O0:(1:Nat)≤1000)) (.cons (zX (l:=["to","of","args","state"]) l_CODE_FORMS8 (.cons ⟨_,rfl⟩ (.cons ⟨_,rfl⟩ (.cons ⟨_,rfl⟩ (.cons ⟨_,rfl⟩ .nil)))) (O0:(4:Nat)≤1000)) (.cons (zX (l:=["to","of","state","state"]) l_CODE_FORMS9 (.cons ⟨_,rfl⟩ (.cons ⟨_,rfl⟩ (.cons ⟨_,rfl⟩ (.cons ⟨_,rfl⟩ .nil)))) (O0:(4:Nat)≤1000)) (.cons (zX (l:=["of","state"]) l_CODE_FORMS10 (.cons ⟨_,rfl⟩ (.cons ⟨_,rfl⟩ .nil)) (O0:(2:Nat)≤1000)) (.cons (zX (l:=["last"]) l_CODE_FORMS11 (.cons ⟨_,rfl⟩ .nil) (O0:(1:Nat)≤1000)) (.cons (zX (l:=["fault word","of"]) l_CODE_FORMS12 (.cons ⟨_,rfl⟩ (.cons ⟨_,rfl⟩ .nil)) (O0:(2:Nat)≤1000)) .nil)))))))))))))⟩,⟨_,Aq X G g_CATCH_SHAPES,(zX (l:=["word","place","state"]) l_CATCH_SHAPES (.cons ⟨_,rfl⟩ (.cons ⟨_,rfl⟩ (.cons ⟨_,rfl⟩ .nil))) (O0:(3:Nat)≤1000))⟩⟩;obtain ⟨_,F0,k0⟩:=l0.fn;have b0:=F0.b1 "thing" fun _ _ _ _ _ _ _=>rfl;have d_is_name:Def l.prog w K mg base _ "is_name" ["thing"] _:=⟨_,_,XB (P:=l.prog) (w:=w) (base:=base) F0 c,b0,k0,Aq X G a0⟩;obtain ⟨_,F1,k1⟩:=l1.fn;have b1:=F1.b1 "thing" fun _ _ _ _ _ _ _=>rfl;have d_is_number:Def l.prog w K mg base _ "is_number" ["thing"] _:=⟨_,_,yU (P:=l.prog) (w:=w) (base:=base) F1 c,b1,k1,Aq X G a1⟩;obtain ⟨_,F2,k2⟩:=l2.fn;have b2:=F2.b1 "thing" fun _ _ _ _ _ _ _=>rfl;have d_is_whole:Def l.prog w K mg base _ "is_whole" ["thing"] _:=⟨_,_,YK (P:=l.prog) (w:=w) (base:=base) F2 c,b2,k2,Aq X G a2⟩;obtain ⟨_,F3,k3⟩:=l3.fn;have b3:=F3.b2 "thing" "length" fun _ _ _ _ _ _ _ _=>rfl;have d_is_index:Def l.prog w K mg base _ "is_index" ["thing","length"] _:=⟨_,_,YQ (P:=l.prog) (w:=w) (base:=base) F3 c d_is_whole,b3,k3,Aq X G a3⟩;obtain ⟨_,F4,k4⟩:=l4.fn;have b4:=F4.b3 "thing" "least" "most" fun _ _ _ _ _ _ _ _ _=>rfl;have d_is_tuple:Def l.prog w K mg base _ "is_tuple" ["thing","least","most"] _:=⟨_,_,YL (P:=l.prog) (w:=w) (base:=base) F4 c,b4,k4,Aq X G a4⟩;obtain ⟨_,F5,k5⟩:=l5.fn;have b5:=F5.b2 "thing" "numbers" fun _ _ _ _ _ _ _ _=>rfl;have d_is_member:Def l.prog w K mg base _ "is_member" ["thing","numbers"] _:=⟨_,_,yW (P:=l.prog) (w:=w) (base:=base) F5 c d_is_whole,b5,k5,Aq X G a5⟩;obtain ⟨_,F6,k6⟩:=l6.fn;have b6:=F6.b1 "thing" fun _ _ _ _ _ _ _=>rfl;have d_is_pair:Def l.prog w K mg base _ "is_pair" ["thing"] _:=⟨_,_,XA (P:=l.prog) (w:=w) (base:=base) F6 c d_is_tuple,b6,k6,Aq X G a6⟩;obtain ⟨_,F7,k7⟩:=l7.fn;have b7:=F7.b2 "thing" "machine" fun _ _ _ _ _ _ _ _=>rfl;have d_is_far_place:Def l.prog w K mg base _ "is_far_place" ["thing","machine"] _:=⟨_,_,wz (P:=l.prog) (w:=w) (base:=base) F7 c d_is_pair d_is_member d_is_index,b7,k7,Aq X G a7⟩;obtain ⟨_,F8,k8⟩:=l8.fn;have b8:=F8.b2 "thing" "machine" fun _ _ _ _ _ _ _ _=>rfl;have d_is_place:Def l.prog w K mg base _ "is_place" ["thing","machine"] _:=⟨_,_,YO (P:=l.prog) (w:=w) (base:=base) F8 c d_is_pair d_is_index d_is_far_place,b8,k8,Aq X G a8⟩;obtain ⟨_,F9,k9⟩:=l9.fn;have b9:=F9.b2 "thing" "machine" fun _ _ _ _ _ _ _ _=>rfl;have d_is_middle:Def l.prog w K mg base _ "is_middle" ["thing","machine"] _:=⟨_,_,yV (P:=l.prog) (w:=w) (base:=base) F9 c d_is_index,b9,k9,Aq X G a9⟩;obtain ⟨_,F10,k10⟩:=l10.fn;have b10:=F10.b4 "thing" "shape" "code" "number" fun _ _ _ _ _ _ _ _ _ _=>rfl;have d_has_shape:Def l.prog w K mg base _ "has_shape" ["thing","shape","code","number"] _:=⟨_,_,yX (P:=l.prog) (w:=w) (base:=base) F10 c T d_is_name d_is_number d_is_tuple d_is_index d_is_place d_is_middle,b10,k10,Aq X G a10⟩;obtain ⟨_,F11,k11⟩:=l11.fn;have b11:=F11.b4 "things" "shapes" "code" "number" fun _ _ _ _ _ _ _ _ _ _=>rfl;have d_have_shapes:Def l.prog w K mg base _ "have_shapes" ["things","shapes","code","number"] _:=⟨_,_,Wh (P:=l.prog) (w:=w) (base:=base) F11 c d_has_shape,b11,k11,Aq X G a11⟩;obtain ⟨_,F12,k12⟩:=l12.fn;have b12:=F12.b4 "thing" "heads" "code" "number" fun _ _ _ _ _ _ _ _ _ _=>rfl;have d_has_form:Def l.prog w K mg base _ "has_form" ["thing","heads","code","number"] _:=⟨_,_,YS (P:=l.prog) (w:=w) (base:=base) F12 c T d_have_shapes,b12,k12,Aq X G a12⟩;obtain ⟨_,F13,k13⟩:=l13.fn;have b13:=F13.b3 "thing" "code" "number" fun _ _ _ _ _ _ _ _ _=>rfl;have d_is_row:Def l.prog w K mg base _ "is_row" ["thing","code","number"] _:=⟨_,_,Qc (P:=l.prog) (w:=w) (base:=base) F13 c T d_has_form,b13,k13,Aq X G a13⟩;obtain ⟨_,F14,k14⟩:=l14.fn;have b14:=F14.b3 "thing" "code" "number" fun _ _ _ _ _ _ _ _ _=>rfl;have d_is_end:Def l.prog w K mg base _ "is_end" ["thing","code","number"] _:=⟨_,_,Qd (P:=l.prog) (w:=w) (base:=base) F14 c T d_has_form,b14,k14,Aq X G a14⟩;obtain ⟨_,F15,k15⟩:=l15.fn;have b15:=F15.b3 "thing" "code" "number" fun _ _ _ _ _ _ _ _ _=>rfl;have d_is_catch:Def l.prog w K mg base _ "is_catch" ["thing","code","number"] _:=⟨_,_,YR (P:=l.prog) (w:=w) (base:=base) F15 c T d_have_shapes,b15,k15,Aq X G a15⟩;obtain ⟨_,F16,k16⟩:=l16.fn;have b16:=F16.b3 "thing" "code" "number" fun _ _ _ _ _ _ _ _ _=>rfl;have d_is_state:Def l.prog w K mg base _ "is_state" ["thing","code","number"] _:=⟨_,_,YM (P:=l.prog) (w:=w) (base:=base) F16 c d_is_tuple d_is_row d_is_end d_is_catch,b16,k16,Aq X G a16⟩;obtain ⟨_,F17,k17⟩:=l17.fn;have b17:=F17.b2 "machine" "number" fun _ _ _ _ _ _ _ _=>rfl;have d_has_place_in_code:Def l.prog w K mg base _ "has_place_in_code" ["machine","number"] _:=⟨_,_,vH (P:=l.prog) (w:=w) (base:=base) F17 c d_is_index,b17,k17,Aq X G a17⟩;obtain ⟨_,F18,k18⟩:=l18.fn;have b18:=F18.b1 "machine" fun _ _ _ _ _ _ _=>rfl;have d_has_counts:Def l.prog w K mg base _ "has_counts" ["machine"] _:=⟨_,_,WR (P:=l.prog) (w:=w) (base:=base) F18 c d_is_index,b18,k18,Aq X G a18⟩;obtain ⟨_,F19,k19⟩:=l19.fn;have b19:=F19.b2 "thing" "length" fun _ _ _ _ _ _ _ _=>rfl;have d_is_rising:Def l.prog w K mg base _ "is_rising" ["thing","length"] _:=⟨_,_,yT (P:=l.prog) (w:=w) (base:=base) F19 c d_is_index,b19,k19,Aq X G a19⟩;obtain ⟨_,F20,k20⟩:=l20.fn;have b20:=F20.b2 "machine" "number" fun _ _ _ _ _ _ _ _=>rfl;have d_has_outer_form:Def l.prog w K mg base _ "has_outer_form" ["machine","number"] _:=⟨_,_,VC (P:=l.prog) (w:=w) (base:=base) F20 c d_is_tuple d_has_place_in_code d_has_counts d_is_rising,b20,k20,Aq X G a20⟩;obtain ⟨_,F21,k21⟩:=l21.fn;have b21:=F21.b2 "code" "number" fun _ _ _ _ _ _ _ _=>rfl;have d_has_inner_form:Def l.prog w K mg base _ "has_inner_form" ["code","number"] _:=⟨_,_,VD (P:=l.prog) (w:=w) (base:=base) F21 c d_is_far_place d_is_state,b21,k21,Aq X G a21⟩;obtain ⟨_,F22,k22⟩:=l22.fn;have b22:=F22.b1 "thing" fun _ _ _ _ _ _ _=>rfl;have d_is_code:Def l.prog w K mg base _ "is_code" ["thing"] _:=⟨_,_,XC (P:=l.prog) (w:=w) (base:=base) F22 c d_is_tuple d_has_outer_form d_has_inner_form,b22,k22,Aq X G a22⟩;obtain ⟨_,F23,k23⟩:=l23.fn;have b23:=F23.b1 "slots" fun _ _ _ _ _ _ _=>rfl;have d_bits_of:Def l.prog w K mg base _ "bits_of" ["slots"] _:=⟨_,_,XD (P:=l.prog) (w:=w) (base:=base) F23 c,b23,k23,Aq X G a23⟩;obtain ⟨_,F24,k24⟩:=l24.fn;have b24:=F24.b1 "thing" fun _ _ _ _ _ _ _=>rfl;have d_slots_read:Def l.prog w K mg base _ "slots_read" ["thing"] _:=⟨_,_,WM (P:=l.prog) (w:=w) (base:=base) F24 c T,b24,k24,Aq X G a24⟩;obtain ⟨_,F25,k25⟩:=l25.fn;have b25:=F25.b1 "thing" fun _ _ _ _ _ _ _=>rfl;have d_slots_written:Def l.prog w K mg base _ "slots_written" ["thing"] _:=⟨_,_,VZ (P:=l.prog) (w:=w) (base:=base) F25 c T,b25,k25,Aq X G a25⟩;obtain ⟨_,F26,k26⟩:=l26.fn;have b26:=F26.b1 "end" fun _ _ _ _ _ _ _=>rfl;have d_states_named:Def l.prog w K mg base _ "states_named" ["end"] _:=⟨_,_,wy (P:=l.prog) (w:=w) (base:=base) F26 c T,b26,k26,Aq X G a26⟩;obtain ⟨_,F28,k28⟩:=l28.fn;have b28:=F28.b2 "self" "slots" fun _ _ _ _ _ _ _ _=>rfl;have d_P_need_slots:MethN l.prog w K mg base c_Passage _ "need_slots" ["self","slots"] _:=⟨⟨_,_,wA (P:=l.prog) (w:=w) (base:=base) F28 c d_bits_of,b28,⟨a28,i28,k28⟩⟩,c.cl⟩;obtain ⟨_,F29,k29⟩:=l29.fn;have b29:=F29.b2 "self" "end" fun _ _ _ _ _ _ _ _=>rfl;have d_P_end_so:MethN l.prog w K mg base c_Passage _ "end_so" ["self","end"] _:=⟨⟨_,_,YT (P:=l.prog) (w:=w) (base:=base) F29 c d_bits_of d_slots_read d_slots_written d_states_named d_P_need_slots,b29,⟨a29,i29,k29⟩⟩,c.cl⟩;obtain ⟨_,F27,k27⟩:=l27.fn;have b27:=F27.b2 "self" "state" fun _ _ _ _ _ _ _ _=>rfl;have d_Passage:MakeA l.prog w K mg base "Passage" c_Passage _ ["self","state"] _:=⟨⟨_,_,Qe (P:=l.prog) (w:=w) (base:=base) F27 c d_bits_of d_slots_read d_slots_written d_P_need_slots d_P_end_so,b27,⟨c.mkC,a27,i27,c.kc⟩⟩,c.m_Passage⟩;obtain ⟨_,F30,k30⟩:=l30.fn;have b30:=F30.b1 "passages" fun _ _ _ _ _ _ _=>rfl;have d_written_ahead:Def l.prog w K mg base _ "written_ahead" ["passages"] _:=⟨_,_,VY (P:=l.prog) (w:=w) (base:=base) F30 c,b30,k30,Aq X G a30⟩;obtain ⟨_,F31,k31⟩:=l31.fn;have b31:=F31.b1 "machine" fun _ _ _ _ _ _ _=>rfl;have d_reads_well:Def l.prog w K mg base _ "reads_well" ["machine"] _:=⟨_,_,WN (P:=l.prog) (w:=w) (base:=base) F31 c d_Passage d_written_ahead,b31,k31,Aq X G a31⟩;obtain ⟨_,F32,k32⟩:=l32.fn;have b32:=F32.b1 "thing" fun _ _ _ _ _ _ _=>rfl;have d_is_sound:Def l.prog w K mg base _ "is_sound" ["thing"] _:=⟨_,_,YN (P:=l.prog) (w:=w) (base:=base) F32 c d_is_code d_reads_well,b32,k32,Aq X G a32⟩;obtain ⟨_,F33,k33⟩:=l33.fn;have b33:=F33.b2 "_law_tape_here" "_law_many" fun _ _ _ _ _ _ _ _=>rfl;have d_law_draw:Def l.prog w K mg base _ "_law_draw" ["_law_tape_here","_law_many"] _:=⟨_,_,YI (P:=l.prog) (w:=w) (base:=base) F33 c,b33,k33,Aq X G a33⟩;obtain ⟨_,F34,k34⟩:=l34.fn;have b34:=F34.b1 "_law_script" fun _ _ _ _ _ _ _=>rfl;have d_law_tape:Def l.prog w K mg base _ "_law_tape" ["_law_script"] _:=⟨_,_,YF (P:=l.prog) (w:=w) (base:=base) F34 c d_law_draw,b34,k34,Aq X G a34⟩;obtain ⟨_,F35,k35⟩:=l35.fn;have b35:=F35.b2 "_law_heads_here" "_law_number" fun _ _ _ _ _ _ _ _=>rfl;have d_law_places:Def l.prog w K mg base _ "_law_places" ["_law_heads_here","_law_number"] _:=⟨_,_,WP (P:=l.prog) (w:=w) (base:=base) F35 c,b35,k35,Aq X G a35⟩;obtain ⟨_,F36,k36⟩:=l36.fn;have b36:=F36.b2 "_law_tape_here" "_law_least" fun _ _ _ _ _ _ _ _=>rfl;have d_law_heads:Def l.prog w K mg base _ "_law_heads" ["_law_tape_here","_law_least"] _:=⟨_,_,yS (P:=l.prog) (w:=w) (base:=base) F36 c d_law_draw d_law_places,b36,k36,Aq X G a36⟩;obtain ⟨_,F37,k37⟩:=l37.fn;have b37:=F37.b3 "_law_tape_here" "_law_heads_here" "_law_number" fun _ _ _ _ _ _ _ _ _=>rfl;have d_law_row_by:Def l.prog w K mg base _ "_law_row_by" ["_law_tape_here","_law_heads_here","_law_number"] _:=⟨_,_,WO (P:=l.prog) (w:=w) (base:=base) F37 c d_law_draw d_law_places,b37,k37,Aq X G a37⟩;obtain ⟨_,F38,k38⟩:=l38.fn;have b38:=F38.b4 "_law_tape_here" "_law_heads_here" "_law_number" "_law_many" fun _ _ _ _ _ _ _ _ _ _=>rfl;have d_law_end_by:Def l.prog w K mg base _ "_law_end_by" ["_law_tape_here","_law_heads_here","_law_number","_law_many"] _:=⟨_,_,WQ (P:=l.prog) (w:=w) (base:=base) F38 c d_law_draw,b38,k38,Aq X G a38⟩;obtain ⟨_,F39,k39⟩:=l39.fn;have b39:=F39.b3 "_law_tape_here" "_law_least" "_law_whole" fun _ _ _ _ _ _ _ _ _=>rfl;have d_law_code:Def l.prog w K mg base _ "_law_code" ["_law_tape_here","_law_least","_law_whole"] _:=⟨_,_,YJ (P:=l.prog) (w:=w) (base:=base) F39 c d_law_draw d_law_places d_law_heads d_law_row_by d_law_end_by,b39,k39,Aq X G a39⟩;obtain ⟨_,F40,k40⟩:=l40.fn;have b40:=F40.b1 "_law_row" fun _ _ _ _ _ _ _=>rfl;have d_law_row_reads:Def l.prog w K mg base _ "_law_row_reads" ["_law_row"] _:=⟨_,_,V1 (P:=l.prog) (w:=w) (base:=base) F40 c,b40,k40,Aq X G a40⟩;obtain ⟨_,F41,k41⟩:=l41.fn;have b41:=F41.b1 "_law_end" fun _ _ _ _ _ _ _=>rfl;have d_law_end_reads:Def l.prog w K mg base _ "_law_end_reads" ["_law_end"] _:=⟨_,_,V2 (P:=l.prog) (w:=w) (base:=base) F41 c,b41,k41,Aq X G a41⟩;obtain ⟨_,F42,k42⟩:=l42.fn;have b42:=F42.b2 "_law_end" "_law_slot" fun _ _ _ _ _ _ _ _=>rfl;have d_law_goes:Def l.prog w K mg base _ "_law_goes" ["_law_end","_law_slot"] _:=⟨_,_,YH (P:=l.prog) (w:=w) (base:=base) F42 c,b42,k42,Aq X G a42⟩;obtain ⟨_,F43,k43⟩:=l43.fn;have b43:=F43.b2 "_law_states" "_law_slot" fun _ _ _ _ _ _ _ _=>rfl;have d_law_unwritten:Def l.prog w K mg base _ "_law_unwritten" ["_law_states","_law_slot"] _:=⟨_,_,V0 (P:=l.prog) (w:=w) (base:=base) F43 c d_law_row_reads d_law_end_reads d_law_goes,b43,k43,Aq X G a43⟩;obtain ⟨_,F44,k44⟩:=l44.fn;have b44:=F44.b1 "_law_code_here" fun _ _ _ _ _ _ _=>rfl;have d_law_is_written:Def l.prog w K mg base _ "_law_is_written" ["_law_code_here"] _:=⟨_,_,VB (P:=l.prog) (w:=w) (base:=base) F44 c d_law_unwritten,b44,k44,Aq X G a44⟩;obtain ⟨_,F45,k45⟩:=l45.fn;have b45:=F45.b1 "_law_tape_here" fun _ _ _ _ _ _ _=>rfl;have d_law_pointed:Def l.prog w K mg base _ "_law_pointed" ["_law_tape_here"] _:=⟨_,_,Wg (P:=l.prog) (w:=w) (base:=base) F45 c d_law_draw,b45,k45,Aq X G a45⟩;obtain ⟨_,F46,k46⟩:=l46.fn;have b46:=F46.b1 "_law_tape_here" fun _ _ _ _ _ _ _=>rfl;have d_law_long:Def l.prog w K mg base _ "_law_long" ["_law_tape_here"] _:=⟨_,_,YG (P:=l.prog) (w:=w) (base:=base) F46 c d_law_draw,b46,k46,Aq X G a46⟩;have F47:=qbk (st:=Vw) l47 c47 k47;exact qf7 F47 c d_law_tape d_law_code d_law_draw d_law_pointed d_law_long d_law_is_written d_is_sound
theorem walk {l:PySem.W.OpenLaw} {q:Program} {loose:List Str} {XP:(Str→Option Ab)→Heap→Prop} {YP:World→Heap→Prop} {d:DefRec} {K:Params→Frag} (hn:l.most=some 63) (hdf:d.params.defaults=[])
  (hY:∀ (w:World) (h:Heap),YP w h→(K w.params).In h)
  (F:∀ (w:World) (mg:Str→Option Ab) (fa:Ac) (h:Heap),(K w.params).In h→h.Ns Ap mg→mg d.name=some (.ref fa)→
   ∃ fd:FuncData,(∀ (s:Ae) (u:Ab),BindsTo s fd ⟨[u],[]⟩ [("_law_script",u)])∧∀ base:Heap,(K w.params).In base→base.Ns Ap mg→FnOkG l.prog w (K w.params) mg base CX0 13 fa fd ["_law_script"] (spLaw (K w.params))):
  PySem.W.WalkO q loose XP YP l.row.toRowW d [] (fun f vs=>PySem.call f vs):=
 L2.QI (n:=63) (k:=13) (x:="_law_script") (CX:=fun _=>CX0) (sp:=fun w=>spLaw (K w.params)) hn O0 hdf ⟨rfl,O0,O0⟩ hY F (fun _ _ a ns hl _ hS=>⟨a,ns,rfl,hS,hl,fun _=>rfl⟩) fun _ _ _ _ _ z=>z
end Mine
set_option Elab.async true
theorem PySem.W.Fast.te16555476440528808052 : True := trivial
namespace PySem.Challenge.cw_waitloom_k22_whole_written_ahead_holds
theorem t:True:=trivial
theorem te18107672116092863132:True:=t
theorem te17206085639936912745:True:=t
theorem te11684915849383696967:True:=t
theorem te17634029879814455513:True:=t
theorem te6926133382471983296:True:=t
theorem te16004933742369388090:True:=t
theorem te2681017200544932625:True:=t
theorem te2617122789856820699:True:=t
theorem te9404335264029450019:True:=t
theorem te5022873542308750968:True:=t
theorem te8767609305212985289:True:=t
theorem te10130392500360135672:True:=t
theorem te1058818165967107801:True:=t
theorem te13446449451865724215:True:=t
theorem te12395744543294606588:True:=t
theorem te15510240870821789287:True:=t
theorem te10221895164717097734:True:=t
theorem te1761173688514241456:True:=t
theorem te6244438469092795634:True:=t
theorem te8950034056858109140:True:=t
theorem te2969096869199957593:True:=t
theorem te8465069402992272799:True:=t
theorem te15733344993939090120:True:=t
theorem te16969385929676803445:True:=t
theorem te9251258413324111448:True:=t
theorem te8133328327018845786:True:=t
theorem te9733680269882562960:True:=t
theorem te18404561074533711867:True:=t
theorem te14529356398659030682:True:=t
theorem te9572762055224118519:True:=t
theorem te8550032887589541005:True:=t
theorem te14492494751323293465:True:=t
theorem te5169973582279369057:True:=t
theorem te6862678764344630304:True:=t
theorem te980256091292305507:True:=t
theorem te6124650728741947108:True:=t
theorem te7260544739430581997:True:=t
theorem te3513191952888749075:True:=t
theorem te10160573108444385745:True:=t
theorem te1647866306886247134:True:=t
theorem te9867939605476363268:True:=t
theorem te1863384953110814406:True:=t
theorem te16046967448859433878:True:=t
theorem te14880906627816355166:True:=t
theorem te1060801323993938331:True:=t
theorem te1867208881917836647:True:=t
theorem te17167847341550723356:True:=t
theorem te17141972637755713401:True:=t
theorem te16087474682872511896:True:=t
theorem te7734926106283475189:True:=t
theorem te11735321971208197953:True:=t
theorem te9268541686974409869:True:=t
theorem te12458053472468815095:True:=t
theorem te14169103910005742176:True:=t
theorem te4764256050353073014:True:=t
theorem te7267395092067730180:True:=t
theorem te7831989433472565895:True:=t
theorem te6828352633660165423:True:=t
theorem te6821685612301669142:True:=t
theorem te6437624644581018207:True:=t
theorem te4275435150365138075:True:=t
theorem te3137197622750616672:True:=t
theorem te861089785818112256:True:=t
theorem te11643189950745462991:True:=t
theorem te7065209675659752542:True:=t
theorem te13996950009257295650:True:=t
theorem te6410691372881626485:True:=t
theorem te5698222429561191542:True:=t
theorem te7029831594417209456:True:=t
theorem te6708996066044056068:True:=t
theorem te16974488116091436017:True:=t
theorem te3843922424080800414:True:=t
theorem te4275149390616910719:True:=t
theorem te15146526064546387030:True:=t
theorem te275120365469767384:True:=t
theorem te8846551959495986955:True:=t
theorem te4498245896082383688:True:=t
theorem te3103063937059880150:True:=t
theorem te3848152106388648612:True:=t
theorem te3988611001672593266:True:=t
theorem te1535176374802290042:True:=t
theorem te15405926963644308537:True:=t
theorem te14941519209434320451:True:=t
theorem te12247922773857360925:True:=t
theorem te6712246096436046185:True:=t
theorem te6118437291249526103:True:=t
theorem te11621438345531041545:True:=t
theorem te282265929568898337:True:=t
theorem te3517944709075463311:True:=t
theorem te18069326035418821144:True:=t
theorem te6639727602645490033:True:=t
theorem te3049285701653835004:True:=t
theorem te13212226718677666786:True:=t
theorem te2732597344041254256:True:=t
theorem te3261773584788401456:True:=t
theorem te3241840238981517802:True:=t
theorem te706163915291325983:True:=t
theorem te11073039552489410802:True:=t
theorem te4628681214890354923:True:=t
theorem te12018250061859597430:True:=t
theorem te1263230121524131645:True:=t
theorem te4127453560857020629:True:=t
theorem te55405885791789343:True:=t
theorem te1781790040544138166:True:=t
theorem te9611765056759849916:True:=t
theorem te14369329876260129390:True:=t
theorem te12394894470242674950:True:=t
theorem te4974628013265453161:True:=t
theorem te13943521138522360852:True:=t
theorem te1307199072789359150:True:=t
theorem te7939227579898003827:True:=t
theorem te12055395729252929248:True:=t
theorem te18420426409548730797:True:=t
theorem te8636662156092097254:True:=t
theorem te4459987391767358546:True:=t
theorem te6269624578568984148:True:=t
theorem te5890580946217819313:True:=t
theorem te7656132476387802554:True:=t
theorem te8201649607730375231:True:=t
theorem te1548724204754945521:True:=t
theorem te8189138032673128942:True:=t
theorem te9903647088088456690:True:=t
theorem te7933448202901177304:True:=t
theorem te17863631688306235114:True:=t
theorem te14436054433695926994:True:=t
theorem te4232789406043774354:True:=t
theorem te12337419237805059259:True:=t
theorem te12320757176149862616:True:=t
theorem te3757931318675250441:True:=t
theorem te2570446028504928981:True:=t
theorem te14685900707380886057:True:=t
theorem te17650642491309066923:True:=t
theorem te3309750346181126216:True:=t
theorem te15419632489365276022:True:=t
theorem te8558559691638481397:True:=t
theorem te131379682045884802:True:=t
theorem te11383664820476996099:True:=t
theorem te11797052677501256589:True:=t
theorem te13681291997125433669:True:=t
theorem te7477630110955849301:True:=t
theorem te7161951558194286095:True:=t
theorem te16108470325104864464:True:=t
theorem te1975708360080536929:True:=t
theorem te4283703372800523377:True:=t
theorem te7484628481564647495:True:=t
theorem te5413974619778253483:True:=t
theorem te18332863798849864560:True:=t
theorem te18178971917858995430:True:=t
theorem te195537415688565734:True:=t
theorem te8720930703324846996:True:=t
theorem te16606078209009806975:True:=t
theorem te3252156619254701995:True:=t
theorem te9004094500964284075:True:=t
theorem te1452014009025003911:True:=t
theorem te3587289665341191846:True:=t
theorem te4142540118983007760:True:=t
theorem te8829357106726969567:True:=t
theorem te6800104470628071750:True:=t
theorem te12823551397881725829:True:=t
theorem te5239481439228460118:True:=t
theorem te17741827980921107010:True:=t
theorem te4262295673673129632:True:=t
theorem te4584207430125574779:True:=t
theorem te2576212803752278926:True:=t
theorem te10904969266415800814:True:=t
theorem te7252380892336522859:True:=t
theorem te9639942390941817683:True:=t
theorem te7094993487090664851:True:=t
theorem te13574754861877213830:True:=t
theorem te834717152383336488:True:=t
theorem te367037626051973978:True:=t
theorem te1687929879346502089:True:=t
theorem te16913590993012655513:True:=t
theorem te4476098546134985874:True:=t
theorem te15746903543539514316:True:=t
theorem te7794340541348957449:True:=t
theorem te2117422738415928064:True:=t
theorem te12213726054133357603:True:=t
theorem te11490228488761446182:True:=t
theorem te4658466458777357857:True:=t
theorem te9255655564932678937:True:=t
theorem te9853809618035503716:True:=t
theorem te5676627931673072595:True:=t
theorem te3311463454503107348:True:=t
theorem te9985961734206489096:True:=t
theorem te13559116057072723629:True:=t
theorem te12369650397426238112:True:=t
theorem te10121427885453588531:True:=t
theorem te3901814863369504942:True:=t
theorem te2533714836277103756:True:=t
theorem te12929461666938793722:True:=t
theorem te2374490899093221098:True:=t
theorem te8776925114872500080:True:=t
theorem te8351697778819198873:True:=t
theorem te11029422442009878672:True:=t
theorem te9125863067857756887:True:=t
theorem te14304084443886699016:True:=t
theorem te16565170009154678469:True:=t
theorem te18287776178281580778:True:=t
theorem te15114159026764359120:True:=t
theorem te10759037621076272527:True:=t
theorem te14768116416955890187:True:=t
theorem te16731428390537618477:True:=t
theorem te3154294109251125796:True:=t
theorem te3252332878683283720:True:=t
theorem te1524053611277751289:True:=t
theorem te10425180473677853349:True:=t
theorem te7185338512610696050:True:=t
theorem te16257810481079665613:True:=t
theorem te5147101146834993308:True:=t
theorem te2281354271859902575:True:=t
theorem te5874842792780166102:True:=t
theorem te13286085746223729052:True:=t
theorem te9276096022652542273:True:=t
theorem te7228679332441803656:True:=t
theorem te13129701595001905140:True:=t
theorem te15441117677199356619:True:=t
theorem te14262406363657520436:True:=t
theorem te6141361594512450417:True:=t
theorem te11911460689912845246:True:=t
theorem te14811201651207246602:True:=t
theorem te16972548056903512162:True:=t
theorem te8487493570126718663:True:=t
theorem te853974474771970151:True:=t
theorem te17611642797728713911:True:=t
theorem te8469916359444401418:True:=t
theorem te16273327950463337358:True:=t
theorem te12676021549962692352:True:=t
theorem te9098129728094954748:True:=t
theorem te5379088086401924020:True:=t
theorem te12729717974924800575:True:=t
theorem te11745476827179642609:True:=t
theorem te1003743017618400489:True:=t
theorem te13833054371043287403:True:=t
theorem te12915571417448312149:True:=t
theorem te8822052535619560377:True:=t
theorem te11652312457076168722:True:=t
theorem te15350160534540499258:True:=t
theorem te7420008148130222053:True:=t
theorem te3045380613693234171:True:=t
theorem te15617039922871978789:True:=t
theorem te2472251147185743502:True:=t
theorem te15494000299729169249:True:=t
theorem te13001196913980276018:True:=t
theorem te11568062111820489952:True:=t
theorem te13762724614767872469:True:=t
theorem te2002289379544704456:True:=t
theorem te7860408171682300752:True:=t
theorem te5211501406581632805:True:=t
theorem te333283773289737876:True:=t
theorem te5719528904120863990:True:=t
theorem te5190844865725678206:True:=t
theorem te15626446746380340325:True:=t
theorem te7484465143972770672:True:=t
theorem te7524563110261067531:True:=t
theorem te6060856310630254026:True:=t
theorem te16794157572205829447:True:=t
theorem te5882872435161877641:True:=t
theorem te7263652513803528725:True:=t
theorem te4206031799998905433:True:=t
theorem te15831386947701900258:True:=t
theorem te5313229679161235037:True:=t
theorem te3141498874448345972:True:=t
theorem te16597605988233901245:True:=t
theorem te1032829049271467416:True:=t
theorem te16394839686476836830:True:=t
theorem te7837663784764192981:True:=t
theorem te16262662595190156934:True:=t
theorem te11498218032640605171:True:=t
theorem te12966288067181976943:True:=t
theorem te2608010049824565923:True:=t
theorem te2469238833095413747:True:=t
theorem te7046938400535906614:True:=t
theorem te10907050194966491768:True:=t
theorem te14879969283931940793:True:=t
theorem te8527982966674882315:True:=t
theorem te17488663828020238131:True:=t
theorem te130988875715994052:True:=t
theorem te12019058934904615520:True:=t
theorem te2065631698065605282:True:=t
theorem te10608709422850850804:True:=t
theorem te520256087921303860:True:=t
theorem te11534121303815158871:True:=t
theorem te18265308860752856004:True:=t
theorem te5990869812186279762:True:=t
theorem te11824359062712750490:True:=t
end PySem.Challenge.cw_waitloom_k22_whole_written_ahead_holds
def PySem.Challenge.cw_waitloom_k22_whole_written_ahead_holds.tw5895976389767538942:PySem.Program:=PySem.Challenge.pw_waitloom_k22_whole_written_ahead
theorem PySem.Challenge.cw_waitloom_k22_whole_written_ahead_holds.te5895976389767538942:PySem.Challenge.pw_waitloom_k22_whole_written_ahead=PySem.Challenge.cw_waitloom_k22_whole_written_ahead_holds.tw5895976389767538942:=rfl
open PySem PySem.W PyProof.Rows
set_option maxRecDepth 100000 in
set_option maxHeartbeats 0 in
theorem PySem.Challenge.cw_waitloom_k22_whole_written_ahead_holds : PySem.Challenge.rw_waitloom_k22_whole_written_ahead.Holds := by
 w_on;o_law;k_head;(case hw=>w_witness2)
 k_fill
 refine Mine.walk (l:=PySem.Challenge.rw_waitloom_k22_whole_written_ahead) rfl rfl (fun w h Y=>PySem.W.kIn_of Y) ?F
 case F=>
  intro w mg fa h KX G hmg;refine' Mine.qha KX G hmg ?a0 ?l0 ?a1 ?l1 ?a2 ?l2 ?a3 ?l3 ?a4 ?l4 ?a5 ?l5 ?a6 ?l6 ?a7 ?l7 ?a8 ?l8 ?a9 ?l9 ?a10 ?l10 ?a11 ?l11 ?a12 ?l12 ?a13 ?l13 ?a14 ?l14 ?a15 ?l15 ?a16 ?l16 ?a17 ?l17 ?a18 ?l18 ?a19 ?l19 ?a20 ?l20 ?a21 ?l21 ?a22 ?l22 ?a23 ?l23 ?a24 ?l24 ?a25 ?l25 ?a26 ?l26 ?a27 ?i27 ?l27 ?a28 ?i28 ?l28 ?a29 ?i29 ?l29 ?a30 ?l30 ?a31 ?l31 ?a32 ?l32 ?a33 ?l33 ?a34 ?l34 ?a35 ?l35 ?a36 ?l36 ?a37 ?l37 ?a38 ?l38 ?a39 ?l39 ?a40 ?l40 ?a41 ?l41 ?a42 ?l42 ?a43 ?l43 ?a44 ?l44 ?a45 ?l45 ?a46 ?l46 ?a47 ?l47 ?z_all ?z_isinstance ?z_str ?z_len ?z_bool ?z_int ?z_tuple ?z_zip ?z_min ?z_range ?z_enumerate ?z_list ?g_MOST_LETTERS ?g_GREATEST_NUMBER ?g_BOXED ?g_TAKEN ?g_NAMES ?g_SLOTS ?g_MOST_PARAMS ?g_STATES ?g_OUTER ?g_KIND ?g_ROWS ?g_CATCHES ?g_STATE_LENGTH ?g_MOST_ROWS ?g_MOST_CATCHES ?g_END ?g_PARAMS ?g_MOST_SLOTS ?g_MACHINE_LENGTH ?g_MOST_STATES ?g_MOST_MACHINES ?n_Passage ?h_pg ?h_hd ?h_po ?h_sa ?h_aN ?h_aW ?h_aY ?h_mk ?h_kc ?g_SIGNS ?l_SIGNS ?g_ROW_HEADS ?l_ROW_HEADS ?g_END_HEADS ?l_END_HEADS ?g_CODE_FORMS ?l_CODE_FORMS ?l_CODE_FORMS0 ?l_CODE_FORMS1 ?l_CODE_FORMS2 ?l_CODE_FORMS3 ?l_CODE_FORMS4 ?l_CODE_FORMS5 ?l_CODE_FORMS6 ?l_CODE_FORMS7 ?l_CODE_FORMS8 ?l_CODE_FORMS9 ?l_CODE_FORMS10 ?l_CODE_FORMS11 ?l_CODE_FORMS12 ?g_CATCH_SHAPES ?l_CATCH_SHAPES
  (case n_Passage=>k_is)
  (case a0=>k_is)
  (case l0=>exact ⟨_,_,_,_,_,_,_,_,by k_is,by k_is,by k_is⟩)
  (case a1=>k_is)
  (case l1=>exact ⟨_,_,_,_,_,_,_,_,by k_is,by k_is,by k_is⟩)
  (case a2=>k_is)
  (case l2=>exact ⟨_,_,_,_,_,_,_,_,by k_is,by k_is,by k_is⟩)
  (case a3=>k_is)
  (case l3=>exact ⟨_,_,_,_,_,_,_,_,by k_is,by k_is,by k_is⟩)
  (case a4=>k_is)
  (case l4=>exact ⟨_,_,_,_,_,_,_,_,by k_is,by k_is,by k_is⟩)
  (case a5=>k_is)
  (case l5=>exact ⟨_,_,_,_,_,_,_,_,by k_is,by k_is,by k_is⟩)
  (case a6=>k_is)
  (case l6=>exact ⟨_,_,_,_,_,_,_,_,by k_is,by k_is,by k_is⟩)
  (case a7=>k_is)
  (case l7=>exact ⟨_,_,_,_,_,_,_,_,by k_is,by k_is,by k_is⟩)
  (case a8=>k_is)
  (case l8=>exact ⟨_,_,_,_,_,_,_,_,by k_is,by k_is,by k_is⟩)
  (case a9=>k_is)
  (case l9=>exact ⟨_,_,_,_,_,_,_,_,by k_is,by k_is,by k_is⟩)
  (case a10=>k_is)
  (case l10=>exact ⟨_,_,_,_,_,_,_,_,by k_is,by k_is,by k_is⟩)
  (case a11=>k_is)
  (case l11=>exact ⟨_,_,_,_,_,_,_,_,by k_is,by k_is,by k_is⟩)
  (case a12=>k_is)
  (case l12=>exact ⟨_,_,_,_,_,_,_,_,by k_is,by k_is,by k_is⟩)
  (case a13=>k_is)
  (case l13=>exact ⟨_,_,_,_,_,_,_,_,by k_is,by k_is,by k_is⟩)
  (case a14=>k_is)
  (case l14=>exact ⟨_,_,_,_,_,_,_,_,by k_is,by k_is,by k_is⟩)
  (case a15=>k_is)
  (case l15=>exact ⟨_,_,_,_,_,_,_,_,by k_is,by k_is,by k_is⟩)
  (case a16=>k_is)
  (case l16=>exact ⟨_,_,_,_,_,_,_,_,by k_is,by k_is,by k_is⟩)
  (case a17=>k_is)
  (case l17=>exact ⟨_,_,_,_,_,_,_,_,by k_is,by k_is,by k_is⟩)
  (case a18=>k_is)
  (case l18=>exact ⟨_,_,_,_,_,_,_,_,by k_is,by k_is,by k_is⟩)
  (case a19=>k_is)
  (case l19=>exact ⟨_,_,_,_,_,_,_,_,by k_is,by k_is,by k_is⟩)
  (case a20=>k_is)
  (case l20=>exact ⟨_,_,_,_,_,_,_,_,by k_is,by k_is,by k_is⟩)
  (case a21=>k_is)
  (case l21=>exact ⟨_,_,_,_,_,_,_,_,by k_is,by k_is,by k_is⟩)
  (case a22=>k_is)
  (case l22=>exact ⟨_,_,_,_,_,_,_,_,by k_is,by k_is,by k_is⟩)
  (case a23=>k_is)
  (case l23=>exact ⟨_,_,_,_,_,_,_,_,by k_is,by k_is,by k_is⟩)
  (case a24=>k_is)
  (case l24=>exact ⟨_,_,_,_,_,_,_,_,by k_is,by k_is,by k_is⟩)
  (case a25=>k_is)
  (case l25=>exact ⟨_,_,_,_,_,_,_,_,by k_is,by k_is,by k_is⟩)
  (case a26=>k_is)
  (case l26=>exact ⟨_,_,_,_,_,_,_,_,by k_is,by k_is,by k_is⟩)
  (case a27=>k_is)
  (case i27=>k_is)
  (case l27=>exact ⟨_,_,_,_,_,_,_,_,by k_is,by k_is,by k_is⟩)
  (case a28=>k_is)
  (case i28=>k_is)
  (case l28=>exact ⟨_,_,_,_,_,_,_,_,by k_is,by k_is,by k_is⟩)
  (case a29=>k_is)
  (case i29=>k_is)
  (case l29=>exact ⟨_,_,_,_,_,_,_,_,by k_is,by k_is,by k_is⟩)
  (case a30=>k_is)
  (case l30=>exact ⟨_,_,_,_,_,_,_,_,by k_is,by k_is,by k_is⟩)
  (case a31=>k_is)
  (case l31=>exact ⟨_,_,_,_,_,_,_,_,by k_is,by k_is,by k_is⟩)
  (case a32=>k_is)
  (case l32=>exact ⟨_,_,_,_,_,_,_,_,by k_is,by k_is,by k_is⟩)
  (case a33=>k_is)
  (case l33=>exact ⟨_,_,_,_,_,_,_,_,by k_is,by k_is,by k_is⟩)
  (case a34=>k_is)
  (case l34=>exact ⟨_,_,_,_,_,_,_,_,by k_is,by k_is,by k_is⟩)
  (case a35=>k_is)
  (case l35=>exact ⟨_,_,_,_,_,_,_,_,by k_is,by k_is,by k_is⟩)
  (case a36=>k_is)
  (case l36=>exact ⟨_,_,_,_,_,_,_,_,by k_is,by k_is,by k_is⟩)
  (case a37=>k_is)
  (case l37=>exact ⟨_,_,_,_,_,_,_,_,by k_is,by k_is,by k_is⟩)
  (case a38=>k_is)
  (case l38=>exact ⟨_,_,_,_,_,_,_,_,by k_is,by k_is,by k_is⟩)
  (case a39=>k_is)
  (case l39=>exact ⟨_,_,_,_,_,_,_,_,by k_is,by k_is,by k_is⟩)
  (case a40=>k_is)
  (case l40=>exact ⟨_,_,_,_,_,_,_,_,by k_is,by k_is,by k_is⟩)
  (case a41=>k_is)
  (case l41=>exact ⟨_,_,_,_,_,_,_,_,by k_is,by k_is,by k_is⟩)
  (case a42=>k_is)
  (case l42=>exact ⟨_,_,_,_,_,_,_,_,by k_is,by k_is,by k_is⟩)
  (case a43=>k_is)
  (case l43=>exact ⟨_,_,_,_,_,_,_,_,by k_is,by k_is,by k_is⟩)
  (case a44=>k_is)
  (case l44=>exact ⟨_,_,_,_,_,_,_,_,by k_is,by k_is,by k_is⟩)
  (case a45=>k_is)
  (case l45=>exact ⟨_,_,_,_,_,_,_,_,by k_is,by k_is,by k_is⟩)
  (case a46=>k_is)
  (case l46=>exact ⟨_,_,_,_,_,_,_,_,by k_is,by k_is,by k_is⟩)
  (case a47=>k_is)
  (case l47=>exact ⟨_,_,_,_,_,_,_,_,by k_is,by k_is,by k_is⟩)
  (case z_all=>k_is)
  (case z_isinstance=>k_is)
  (case z_str=>k_is)
  (case z_len=>k_is)
  (case z_bool=>k_is)
  (case z_int=>k_is)
  (case z_tuple=>k_is)
  (case z_zip=>k_is)
  (case z_min=>k_is)
  (case z_range=>k_is)
  (case z_enumerate=>k_is)
  (case z_list=>k_is)
  (case g_MOST_LETTERS=>k_is)
  (case g_GREATEST_NUMBER=>k_is)
  (case g_BOXED=>k_is)
  (case g_TAKEN=>k_is)
  (case g_NAMES=>k_is)
  (case g_SLOTS=>k_is)
  (case g_MOST_PARAMS=>k_is)
  (case g_STATES=>k_is)
  (case g_OUTER=>k_is)
  (case g_KIND=>k_is)
  (case g_ROWS=>k_is)
  (case g_CATCHES=>k_is)
  (case g_STATE_LENGTH=>k_is)
  (case g_MOST_ROWS=>k_is)
  (case g_MOST_CATCHES=>k_is)
  (case g_END=>k_is)
  (case g_PARAMS=>k_is)
  (case g_MOST_SLOTS=>k_is)
  (case g_MACHINE_LENGTH=>k_is)
  (case g_MOST_STATES=>k_is)
  (case g_MOST_MACHINES=>k_is)
  (case h_pg=>k_is)
  (case h_hd=>k_is)
  (case h_po=>k_is)
  (case h_sa=>k_is)
  (case h_aN=>k_is)
  (case h_aW=>k_is)
  (case h_aY=>k_is)
  (case h_mk=>k_is)
  (case h_kc=>k_is)
  (case g_SIGNS=>k_is)
  (case l_SIGNS=>k_is)
  (case g_ROW_HEADS=>k_is)
  (case l_ROW_HEADS=>k_is)
  (case g_END_HEADS=>k_is)
  (case l_END_HEADS=>k_is)
  (case g_CODE_FORMS=>k_is)
  (case l_CODE_FORMS=>k_is)
  (case l_CODE_FORMS0=>k_is)
  (case l_CODE_FORMS1=>k_is)
  (case l_CODE_FORMS2=>k_is)
  (case l_CODE_FORMS3=>k_is)
  (case l_CODE_FORMS4=>k_is)
  (case l_CODE_FORMS5=>k_is)
  (case l_CODE_FORMS6=>k_is)
  (case l_CODE_FORMS7=>k_is)
  (case l_CODE_FORMS8=>k_is)
  (case l_CODE_FORMS9=>k_is)
  (case l_CODE_FORMS10=>k_is)
  (case l_CODE_FORMS11=>k_is)
  (case l_CODE_FORMS12=>k_is)
  (case g_CATCH_SHAPES=>k_is)
  (case l_CATCH_SHAPES=>k_is)
