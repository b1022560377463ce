import PyProof.Rows.All
import Wide.All
import OpenK.AllK
import Wide.FinOn
import Lean
import PyProof.EqAt
import PyProof.EqKinds
import PyProof.TupleCall
import PyProof.EqLayable
import PyProof.FitsBits
import PyProof.FitsInt
import PyProof.ReprLen
import PyProof.ReprReads
import PyProof.StrLawsRepr
import KE.KRevIter
import KE.KDictSum
import KE.KRevSl
import PyProof.Rows.ZipGen
import PyProof.Rows.SortWalk
import KE.KDictList
import PyProof.Rows.Tup
import PyProof.Rows.Range3
import PyProof.EnumMake
import PyProof.EnumFor
import PyProof.Rows.SortStr
import PyProof.Rows.SeqMore2
import PyProof.Rows.StrInSeq3
import KE.KIntText
import PyProof.StrCalls
import PyProof.Cells
import PyProof.Rows.SeqMore
import PyProof.ListMulAny
import PySem.Challenge.RW_waitloom_k05_whole_shown_and_read
set_option Elab.async false
set_option linter.all false
set_option genSizeOf false
set_option maxRecDepth 100000
noncomputable section
open PySem.W(Frag)
local macro_rules|`(∅)=>`(by decide+kernel)
local macro_rules|`(⋯)=>`(by omega)
theorem O0 {p:Prop} (h:p:=by decide):p:=h
open PySem renaming PyData→Aa,Value→Ab,Addr→Ac,Shared→Ae,sizeLine→Af,mainGlobals→Aq,wpAny_bind→Am,mem_of_lookup→A5,wpAny_pure→A8,wpAny_truthy_bool→Co,wpAny_field→C2,wpAny_newObj_type→C8,wpAny_mono→C9,wpAny_callSpecial?_slot→Df,wpAny_seqItems→Di,wpAny_setField_rec→Dn,wpAny_passesOwn→Do,wpAny_getItem_str_slice→Dz,sizeLine_eq→Ed,wpAny_call_entry→Eh,wpAny_holding→Ek,wpAny_loadPart'→Eo,codeAny_mono→Ep,wpAny_pyIter_tuple→Er,wpAny_Call_Name_kw→Eu,call_meets→E2
open List renaming length_map→Ah,length_cons→Aj,length_append→Ak,mem_cons_of_mem→Ao,mem_cons→Ap,map_cons→As,mem_cons_self→Au,mem_singleton→A0,map_append→A1,not_mem_nil→A2,all_eq_true→A4,size_toArray→A6,length_nil→Ba,mem_append_right→Bc,lookup_cons→Bg,append_nil→Bi,append_assoc→Bl,mem_map→Bo,flatten_cons→Bp,getElem?_map→Bq,getElem?_eq_getElem→Br,map_map→Bv,take_add_one→Bw,mem_of_getElem?→Bx,length_take_le→Bz,mem_append_left→B1,nil_append→B2,length_take→B4,foldl_cons→B8,sum_cons→B9,take_length→Cb,cons_append→Cc,map_nil→Cd,mem_of_mem_take→Ce,getElem?_eq_some_iff→Cf,mem_append→Ci,replicate_succ→Cm,contains_iff_mem→Cn,nodup_cons→Cr,mem_flatMap→Ct,flatMap_cons→Cv,length_singleton→Cy,of_mem_zip→C0,find?_cons→C1,any_eq_true→C4,take_of_length_le→C5,getElem?_zip_eq_some→C6,length_zip→Dd,mem_map_of_mem→Dg,length_pos_iff→Dh,mem_range→Dj,all_map→Dm,sum_append→Dr,length_set→Ds,getElem?_set_ne→Dv,getLast?_concat→Dw,length_drop→Dy,all_cons→D0,drop_of_length_le→Ec,reverse_cons→Ee,cons_ne_nil→Ef,mem_of_mem_drop→Ei,any_cons→Ej,filterMap_cons→El,forIn_cons→En,map_replicate→Es,length_range→Ew
open Bool renaming false_ne_true→Ai,and_eq_true→Al,eq_false_iff→Bs,or_eq_true→Bt,true_and→B0,false_and→B3,eq_iff_iff→B5,false_eq_true→Dc,or_eq_false_iff→De,and_false→Ev,false_or→Ey
open PySem.Heap renaming get?_push_of_some→Av,lt_size→A7,get?_push_size→Bh,size_push→Cp
open Nat renaming le_trans→Aw,le_refl→Ax,lt_of_lt_of_le→Bj,zero_le→Bm,ne_of_lt→Bu,lt_of_le_of_lt→Ch,lt_irrefl→Cq,succ_le_succ→Cu,le_succ_of_le→C7,max_le→Dk,lt_succ_self→Eg,ne_of_gt→Et,le_succ→Ex,add_assoc→Ez
open PySem.W renaming mg_of→Ay,mg_none_of→B6,kia_one→Cj
open Int renaming emod_lt_of_pos→A9,emod_nonneg→Be,le_trans→B7,le_refl→Eb
open Option.some renaming inj→Bb
open Array renaming length_toList→Bn,toList_push→Du,toList_append→Em
open PySem.F renaming plainAttrs_list→By,plainAttrs_str→Cg,slot_list_append→Ck,type_list_append→Cl,slot_str_join→Dp,type_str_join→Dq,slot_tuple_iterator_next→Dt
open PySem.Paired renaming length→Cw
open Option renaming isSome_iff_exists→Cz,eq_none_iff_forall_ne_some→Dx
open PySem.PassesOwn renaming never→C3
open PyProof.Rows.F renaming plain_set_update_loop→Dl
open PySem.Calls renaming callWith_builtin→Ea
def An:=@decide_eq_true
def Ar:=@decide_eq_false
def Az:=@beq_iff_eq
def A3:=@of_decide_eq_true
def Bf:=@beq_eq_false_iff_ne
def Bk:=@decide_eq_true_eq
namespace L2
open PySem PySem.Spec PyProof.Rows
set_option tactic.hygienic false
abbrev Key:=Sum Int Str
def YG:Key→Ab→Bool
 | .inl k,v=>Value.isInt k v
 | .inr x,v=>Value.isStrOf x v
def keyH (w:World):Key→Int
 | .inl k=>hashInt k
 | .inr x=>hashStr w x
theorem zz:∀ {k:Key} {v:Ab},YG k v=true→(∃ i t,k=Sum.inl i∧v=Value.int i t)∨(∃ x t,k=Sum.inr x∧v=Value.str x t)
 | .inl i,v,h=>by
  obtain ⟨t,e⟩:=Value.isInt_shape (k:=i) (v:=v) h;exact .inl ⟨i,t,rfl,e⟩
 | .inr x,v,h=>by
  obtain ⟨t,e⟩:=Value.isStrOf_shape (x:=x) (v:=v) h;exact .inr ⟨x,t,rfl,e⟩
theorem qb5 (i:Int) (t:Tok):YG (.inl i) (.int i t)=true:=by simp [YG,Value.isInt]
theorem JZ (x:Str) (t:Tok):YG (.inr x) (.str x t)=true:=by simp [YG,Value.isStrOf]
theorem qjl (a b:Int):decide ((Sum.inl a:Key)=Sum.inl b)=(a==b):=by
 by_cases e:a=b
 ·subst e;simp
 ·have h:¬ (Sum.inl a:Key)=Sum.inl b:=fun q=>e (Sum.inl.inj q);rw [Ar h];exact (Bf.mpr e).symm
theorem qji (a b:Str):decide ((Sum.inr a:Key)=Sum.inr b)=decide (a=b):=by
 by_cases e:a=b
 ·subst e;simp
 ·have h:¬ (Sum.inr a:Key)=Sum.inr b:=fun q=>e (Sum.inr.inj q);rw [Ar h,Ar e]
theorem qjk (a:Int) (b:Str):decide ((Sum.inl a:Key)=Sum.inr b)=false:=Ar (fun q=>nomatch q)
theorem qjj (a:Str) (b:Int):decide ((Sum.inr a:Key)=Sum.inl b)=false:=Ar (fun q=>nomatch q)
def zb (prog:Program) (w:World):PySem.KeyKind prog w Key where
 is:=YG
 hash:=keyH w
 inj:=fun v a b ha hb=>by
  rcases zz ha with ⟨i,t,rfl,rfl⟩ | ⟨x,t,rfl,rfl⟩
  ·rcases zz hb with ⟨j,u,rfl,e⟩ | ⟨y,u,rfl,e⟩
   ·injection e with e1 _;rw [e1]
   ·exact nomatch e
  ·rcases zz hb with ⟨j,u,rfl,e⟩ | ⟨y,u,rfl,e⟩
   ·exact nomatch e
   ·injection e with e1 _;rw [e1]
 byValue:=fun k v h=>by
  rcases zz h with ⟨i,t,rfl,rfl⟩ | ⟨x,t,rfl,rfl⟩ <;> rfl
 pyHash:=fun hv h=>by
  rcases zz hv with ⟨i,t,rfl,rfl⟩ | ⟨x,t,rfl,rfl⟩
  ·exact wpAny_pyHash_int h
  ·exact wpAny_pyHash_str h
 eqBool:=fun hu hv h=>by
  rcases zz hu with ⟨i,t,rfl,rfl⟩ | ⟨x,t,rfl,rfl⟩
  ·rcases zz hv with ⟨j,u,rfl,rfl⟩ | ⟨y,u,rfl,rfl⟩
   ·rw [qjl] at h;exact wpAny_eqBool_int h
   ·rw [qjk] at h;exact SeqAt.EqAt.int_str i t y u _ _ _ _ h
  ·rcases zz hv with ⟨j,u,rfl,rfl⟩ | ⟨y,u,rfl,rfl⟩
   ·rw [qjj] at h;exact SeqAt.EqAt.str_int x t j u _ _ _ _ h
   ·rw [qji] at h;exact wpAny_eqBool_str h
 «strs» :=fun k x t v h=>by
  rcases zz h with ⟨i,u,rfl,e⟩ | ⟨y,u,rfl,e⟩
  ·exact nomatch e
  ·injection e with e1 _
   subst e1;cases v <;> rfl
theorem ZF (prog:Program) (w:World) (i:Int) (t:Tok):(zb prog w).is (.inl i) (.int i t)=true:=qb5 i t
theorem wJ (prog:Program) (w:World) (x:Str) (t:Tok):(zb prog w).is (.inr x) (.str x t)=true:=JZ x t
inductive V where
 | non | bl (b:Bool) | int (i:Int) | str (x:Str) | byt (b:Array UInt8) | flt (b:UInt64) | ref (a:Ac) | ty (n:String)
 deriving DecidableEq
def qL:V→Ab→Prop
 | .non,u=>u=Value.none
 | .bl b,u=>u=Value.bool b
 | .int i,u=>∃ t,u=Value.int i t
 | .str x,u=>∃ t,u=Value.str x t
 | .byt b,u=>∃ t,u=Value.bytes b t
 | .flt b,u=>∃ t,u=Value.float b t
 | .ref a,u=>u=Value.ref a
 | .ty n,u=>u=Value.type n
abbrev qH:List V→List Ab→Prop:=Paired qL
theorem qH.length {xs:List V} {us:List Ab} (r:qH xs us):xs.length=us.length:=Cw r
theorem qH.get:∀ {xs:List V} {us:List Ab} {i:Nat} {x:V},qH xs us→xs[i]?=some x→∃ u,us[i]?=some u∧qL x u
 | _,_,_,_,.nil,e=>by simp at e
 | _,_,0,_,.cons r _,e=>by simp at e;subst e;exact ⟨_,rfl,r⟩
 | _,_,i+1,x,.cons _ t,e=>by
  obtain ⟨u,h1,h2⟩:=qH.get (i:=i) (x:=x) t (by simpa using e)
  exact ⟨u,by simpa using h1,h2⟩
theorem qH.set {x:V} {u:Ab} (r:qL x u):∀ {xs:List V} {us:List Ab} (i:Nat),qH xs us→qH (xs.set i x) (us.set i u)
 | _,_,_,.nil=> .nil
 | _,_,0,.cons _ t=> .cons r t
 | _,_,i+1,.cons q t=> .cons q (qH.set r i t)
theorem qH.append:∀ {xs ys:List V} {us ws:List Ab},qH xs us→qH ys ws→qH (xs++ys) (us++ws)
 | _,_,_,_,.nil,s=>s
 | _,_,_,_,.cons r t,s=> .cons r (qH.append t s)
theorem qH.take:∀ {xs:List V} {us:List Ab} (n:Nat),qH xs us→qH (xs.take n) (us.take n)
 | _,_,0,_=> .nil
 | _,_,_+1,.nil=> .nil
 | _,_,n+1,.cons r t=> .cons r (qH.take n t)
theorem qH.drop:∀ {xs:List V} {us:List Ab} (n:Nat),qH xs us→qH (xs.drop n) (us.drop n)
 | _,_,0,r=>r
 | _,_,_+1,.nil=> .nil
 | _,_,n+1,.cons _ t=>qH.drop n t
theorem qH.none_of:∀ {xs:List V} {us:List Ab} {i:Nat},qH xs us→xs[i]?=none→us[i]?=none:=fun {xs us i} r e=>by
 have h1:=r.length;have h2:xs.length≤i:=List.getElem?_eq_none_iff.mp e;exact List.getElem?_eq_none_iff.mpr ⋯
def Vd:Option V→Option Ab→Prop
 | some v,some u=>qL v u
 | none,none=>True
 | _,_=>False
def KV {κ:Type}:List (κ×V)→List (κ×Ab)→Prop:=Paired fun (p:κ×V) (q:κ×Ab)=>p.1=q.1∧qL p.2 q.2
def kV:Key→V
 | .inl i=> .int i
 | .inr x=> .str x
inductive HO where
 | lst (xs:List V)
 | tup (xs:List V)
 | dK (kvs:List (Key×V)) | dT (kvs:List (List Key×V))
 | set (S:Int→Bool) (n:Nat)
 | ins (C dx:Ac) (fs:List (Str×V))
 | own (x:Ac)
 | xd (fs:List (Str×V))
 | met (f x:Ac)
 | rng (lo hi:Int)
 | frz (o:Obj) (u:HO)
 | tbl (ps:Array Ab)
 | ext (φ:Heap→Prop)
abbrev Hp:=Ac→Option HO
def upd (H:Hp) (a:Ac) (o:HO):Hp:=fun b=>if b=a then some o else H b
theorem upd_same {H:Hp} {a:Ac} {o:HO}:upd H a o a=some o:=by unfold upd;rw [if_pos rfl]
theorem qu {H:Hp} {a b:Ac} {o:HO} (h:b≠a):upd H a o b=H b:=by unfold upd;rw [if_neg h]
theorem ya {H:Hp} {a b:Ac} {o u:HO} (h:H a=some o) (h':H b=some u) (d:o≠u):a≠b:=by
 intro e;subst e;rw [h] at h';exact d (Bb h')
theorem qC {H:Hp} {a b:Ac} {o:HO} (h:H a=some o) (h':H b=none):a≠b:=by
 intro e;subst e;rw [h] at h';cases h'
section
variable (P:Program) (w:World)
def zq (H:Hp) (h:Heap) (a:Ac):HO→Prop
 | .lst xs=>xs.length≤Af∧∃ (its:List Ab) (n:Nat),qH xs its∧h.get? a=some {cls:= .type "list",data:= .seq its.toArray n}
 | .tup xs=>xs.length≤Af∧∃ its:List Ab,qH xs its∧IsTup h a its.toArray
 | .dK kvs=>kvs.length≤Af∧(a==sysModules)=false∧∃ vs,KV kvs vs∧h.DictOf (zb P w) a vs
 | .dT kvs=>kvs.length≤Af∧(a==sysModules)=false∧∃ xs:List (List Key×Ac×Ab),
   Paired (fun (p:List Key×V) (q:List Key×Ac×Ab)=>p.1=q.1∧H q.2.1=some (.tup (p.1.map kV))∧qL p.2 q.2.2) kvs xs∧
   ∃ o es ep,h.get? a=some o∧o.ExactDict∧o.data= .dict es ep∧es.toList=xs.map (entryOfKey (tupleKind (zb P w)))∧(xs.map (·.1)).Nodup
 | .set S n=>h.SetOf (intKind P w) a S n
 | .ins C dx fs=>H dx=some (.own a)∧fs.length≤1000∧dx≠a∧h.get? a=some (PySem.W.instObj C dx)∧
   ∃ mA,h.Ns1 dx mA∧(∀ f,Vd (fs.lookup f) (mA f))∧PySem.Within mA (fs.map (·.1))
 | .own _=>∃ o,h.get? a=some o
 | .xd fs=>∃ mA,h.Ns1 a mA∧∀ f,Vd (fs.lookup f) (mA f)
 | .rng lo hi=>∃ t u v,h.get? a=some {cls:= .type "range",data:= .fields #[.int lo t,.int hi u,.int 1 v]}
 | .frz o u=>h.get? a=some o∧zq H h a u
 | .tbl ps=>h.get? a=some {cls:= .none,data:= .fields ps}
 | .met f x=>h.get? a=some (PySem.W.methodObj (.ref f) (.ref x))
 | .ext φ=>φ h∧(∃ o,h.get? a=some o)∧∀ h1 h2:Heap,φ h1→(∀ o,h1.get? a=some o→h2.get? a=some o)→φ h2
def HOk (H:Hp) (h:Heap):Prop:=∀ a o,H a=some o→zq P w H h a o
end
section
variable {P:Program} {w:World} {H H':Hp} {h h':Heap} {a:Ac} {o:HO}
theorem zq.lt (x:zq P w H h a o):a<h.objs.size:=by
 cases o with
 | lst xs=>obtain ⟨_,_,_,_,e⟩:=x;exact A7 e
 | tup xs=>obtain ⟨_,_,_,p⟩:=x;exact p.lt
 | dK kvs=>obtain ⟨_,_,_,_,o,_,_,e,_⟩:=x;exact A7 e
 | dT kvs=>obtain ⟨_,_,_,_,o,_,_,e,_⟩:=x;exact A7 e
 | set S n=>obtain ⟨o,_,_,_,e,_⟩:=x;exact A7 e
 | ins C dx fs=>obtain ⟨_,_,_,e,_⟩:=x;exact A7 e
 | own y=>obtain ⟨_,e⟩:=x;exact A7 e
 | xd fs=>obtain ⟨_,⟨_,_,_,e,_⟩,_⟩:=x;exact A7 e
 | rng lo hi=>obtain ⟨_,_,_,e⟩:=x;exact A7 e
 | frz ob u=>obtain ⟨e,_⟩:=x;exact A7 e
 | tbl ps=>exact A7 (show h.get? a=some _ from x)
 | met f y=>exact A7 (show h.get? a=some _ from x)
 | ext φ=>obtain ⟨_,⟨_,e⟩,_⟩:=x;exact A7 e
theorem Paired.mapP {α β:Type} {F G:α→β→Prop}:∀ {l₁:List α} {l₂:List β},Paired F l₁ l₂→(∀ a b,F a b→G a b)→Paired G l₁ l₂
 | _,_,.nil,_=> .nil
 | _,_,.cons r t,f=> .cons (f _ _ r) (Paired.mapP t f)
theorem zq.stay (x:zq P w H h a o) (k:∀ b u,(b=a∨H b=some (.own a))→h.get? b=some u→h'.get? b=some u)
  (ho:∀ b,H b=some (.own a)→H' b=some (.own a)) (ht:∀ b xs,H b=some (.tup xs)→H' b=some (.tup xs)):zq P w H' h' a o:=by
 induction o with
 | lst xs=>obtain ⟨z,its,n,r,e⟩:=x;exact ⟨z,its,n,r,k _ _ (.inl rfl) e⟩
 | tup xs=>obtain ⟨z,its,r,ob,e,c⟩:=x;exact ⟨z,its,r,ob,k _ _ (.inl rfl) e,c⟩
 | dK kvs=>obtain ⟨z,y,vs,r,ob,es,ep,e,c⟩:=x;exact ⟨z,y,vs,r,ob,es,ep,k _ _ (.inl rfl) e,c⟩
 | dT kvs=>
  obtain ⟨z,y,xs,r,ob,es,ep,e,c⟩:=x;exact ⟨z,y,xs,Paired.mapP r fun p q z=>⟨z.1,ht _ _ z.2.1,z.2.2⟩,ob,es,ep,k _ _ (.inl rfl) e,c⟩
 | set S n=>obtain ⟨ob,es,ep,t,e,c⟩:=x;exact ⟨ob,es,ep,t,k _ _ (.inl rfl) e,c⟩
 | ins C dx fs=>
  obtain ⟨d,z,ne,e,mA,⟨od,es,ep,e2,c⟩,r⟩:=x;exact ⟨ho _ d,z,ne,k _ _ (.inl rfl) e,mA,⟨od,es,ep,k _ _ (.inr d) e2,c⟩,r⟩
 | own y=>obtain ⟨ob,e⟩:=x;exact ⟨ob,k _ _ (.inl rfl) e⟩
 | xd fs=>obtain ⟨mA,⟨od,es,ep,e,c⟩,r⟩:=x;exact ⟨mA,⟨od,es,ep,k _ _ (.inl rfl) e,c⟩,r⟩
 | rng lo hi=>obtain ⟨t,u,v,e⟩:=x;exact ⟨t,u,v,k _ _ (.inl rfl) e⟩
 | frz ob u ih=>obtain ⟨e,q⟩:=x;exact ⟨k _ _ (.inl rfl) e,ih q⟩
 | tbl ps=>
  have e:h.get? a=some {cls:= .none,data:= .fields ps}:=x;show h'.get? a=some {cls:= .none,data:= .fields ps};exact k a _ (.inl rfl) e
 | met f y=>
  have e:h.get? a=some (PySem.W.methodObj (.ref f) (.ref y)):=x;show h'.get? a=some (PySem.W.methodObj (.ref f) (.ref y));exact k a _ (.inl rfl) e
 | ext φ=>obtain ⟨p,⟨o,e⟩,st⟩:=x;exact ⟨st _ _ p fun o q=>k _ _ (.inl rfl) q,⟨o,k _ _ (.inl rfl) e⟩,st⟩
theorem HOk.lt (x:HOk P w H h) (e:H a=some o):a<h.objs.size:=(x a o e).lt
theorem HOk.fresh (x:HOk P w H h) (e:h.objs.size≤a):H a=none:=by
 cases q:H a with
 | none=>rfl
 | some u=>exact absurd (Bj (x.lt q) e) (Cq _)
theorem HOk.kept (x:HOk P w H h) (k:∀ b u,h.get? b=some u→h'.get? b=some u):HOk P w H h':=fun a o e=>
 (x a o e).stay (fun b u _ q=>k b u q) (fun _ q=>q) fun _ _ q=>q
theorem HOk.laid (x:HOk P w H h) (k:∀ b u,h.get? b=some u→h'.get? b=some u) (hp:h.objs.size≤a) (new:zq P w (upd H a o) h' a o):HOk P w (upd H a o) h':=fun b u e=>by
 have hn:=x.fresh hp
 by_cases hb:b=a
 ·subst hb;rw [upd_same] at e;cases e;exact new
 ·rw [qu hb] at e;exact (x b u e).stay (fun c v _ q=>k c v q) (fun c q=>by rw [qu (qC q hn)];exact q) fun c xs q=>by rw [qu (qC q hn)];exact q
end
def Rd (H:Hp) (a:Ac) (u:HO):Prop:=H a=some u∨∃ o,H a=some (.frz o u)
theorem Rd.ok {P:Program} {w:World} {H:Hp} {h:Heap} {a:Ac} {u:HO} (r:Rd H a u) (x:HOk P w H h):zq P w H h a u:=by
 rcases r with r | ⟨o,r⟩
 ·exact x a u r
 ·obtain ⟨_,q⟩:=x a _ r;exact q
def Mut:Option HO→Prop
 | some (.lst _)=>True
 | some (.dK _)=>True
 | some (.dT _)=>True
 | some (.set _ _)=>True
 | some (.ins _ _ _)=>True
 | some (.ext _)=>True
 | _=>False
section
variable {P:Program} {w:World} {H:Hp} {h h':Heap} {x e:Ac} {o':HO}
theorem HOk.write (ok:HOk P w H h) (mu:Mut (H x)) (he:e=x∨H e=some (.own x)) (k:∀ b u,b≠e→h.get? b=some u→h'.get? b=some u) (heo:∃ u,h'.get? e=some u)
  (new:zq P w (upd H x o') h' x o'):HOk P w (upd H x o') h':=fun b u q=>by
 have nown:∀ c y,H c=some (.own y)→c≠x:=fun c y r z=>by subst z;rw [r] at mu;exact mu
 have ntup:∀ c xs,H c=some (.tup xs)→c≠x:=fun c xs r z=>by subst z;rw [r] at mu;exact mu
 by_cases hb:b=x
 ·subst hb;rw [upd_same] at q;cases q;exact new
 ·rw [qu hb] at q
  by_cases hbe:b=e
  ·have q':H b=some (.own x):=by
    rcases he with z | z
    ·exact absurd (hbe.trans z) hb
    ·rw [hbe];exact z
   rw [q] at q';cases q';obtain ⟨v,hv⟩:=heo;exact ⟨v,by rw [hbe];exact hv⟩
  ·refine (ok b u q).stay (fun c v hc r=>k c v ?_ r) (fun c r=>by rw [qu (nown c b r)];exact r) fun c xs r=>by rw [qu (ntup c xs r)];exact r
   rcases hc with rfl | hc
   ·exact hbe
   ·rintro rfl;rcases he with z | z
    ·exact nown c b hc z
    ·rw [hc] at z;cases z;exact hb rfl
end
structure Un (fs ex:List Ac) (H H':Hp) (h h':Heap):Prop where
 keep:∀ b o,h.get? b=some o→H b=none→b∉fs→b∉ex→h'.get? b=some o
 slot:∀ b o,h.get? b=some o→H b=none→b∈fs→b∉ex→∃ sl,h'.get? b=some {o with slots:=sl}
 free:∀ b o,h.get? b=some o→H b=none→b∉ex→H' b=none
 there:∀ b o,h.get? b=some o→b∉ex→∃ o',h'.get? b=some o'
 tups:∀ b xs,H b=some (.tup xs)→H' b=some (.tup xs)
 frzs:∀ b o u,H b=some (.frz o u)→H' b=some (.frz o u)
 tbls:∀ b ps,H b=some (.tbl ps)→∃ more,H' b=some (.tbl (ps++more))
section
variable {fs fs' ex ex':List Ac} {H H1 H2:Hp} {h h1 h2 h':Heap} {a x e:Ac} {o:HO}
theorem Un.any (u:Un fs ex H H1 h h1) {b:Ac} {ob:Obj} (q:h.get? b=some ob) (n:H b=none) (hx:b∉ex):∃ sl,h1.get? b=some {ob with slots:=sl}:=by
 by_cases hb:b∈fs
 ·exact u.slot b ob q n hb hx
 ·exact ⟨ob.slots,u.keep b ob q n hb hx⟩
theorem Un.kept (k:∀ b u,h.get? b=some u→h'.get? b=some u):Un fs ex H H h h':=
 ⟨fun b ob q _ _ _=>k b ob q,fun b ob q _ _ _=>⟨ob.slots,k b ob q⟩,fun _ _ _ n _=>n,fun b ob q _=>⟨ob,k b ob q⟩,fun _ _ q=>q,fun _ _ _ q=>q,fun _ ps q=>⟨#[],by rw [q];simp⟩⟩
theorem Un.refl:Un fs ex H H h h:=Un.kept fun _ _ q=>q
theorem Un.laid (k:∀ b u,h.get? b=some u→h'.get? b=some u) (hp:h.objs.size≤a) (hn:H a=none):Un fs ex H (upd H a o) h h' where
 keep:=fun b u q _ _ _=>k b u q
 slot:=fun b u q _ _ _=>⟨u.slots,k b u q⟩
 free:=fun b u q n _=>by rw [qu (Bu (Bj (A7 q) hp))];exact n
 there:=fun b u q _=>⟨u,k b u q⟩
 tups:=fun b xs q=>by rw [qu (qC q hn)];exact q
 frzs:=fun b u xs q=>by rw [qu (qC q hn)];exact q
 tbls:=fun b ps q=>⟨#[],by rw [qu (qC q hn),q];simp⟩
theorem Un.write (mu:Mut (H x)) (he:e=x∨H e=some (.own x)) (k:∀ b u,b≠e→h.get? b=some u→h'.get? b=some u) (heo:∃ u,h'.get? e=some u):Un fs ex H (upd H x o) h h':=by
 have hx:∀ b,H b=none→b≠x:=fun b n z=>by subst z;rw [n] at mu;exact mu
 have hb:∀ b,H b=none→b≠e:=fun b n z=>by
  subst z;rcases he with r | r
  ·exact hx b n r
  ·rw [n] at r;cases r
 have hm:∀ b u,H b=some u→¬ Mut (some u)→b≠x:=fun b u q nm z=>by subst z;rw [q] at mu;exact nm mu
 refine ⟨fun b u q n _ _=>k b u (hb b n) q,fun b u q n _ _=>⟨u.slots,k b u (hb b n) q⟩,fun b u q n _=>by rw [qu (hx b n)];exact n,fun b u q _=>?_,
  fun b xs q=>by rw [qu (hm b _ q fun z=>z)];exact q,fun b u xs q=>by rw [qu (hm b _ q fun z=>z)];exact q,fun b ps q=>⟨#[],by rw [qu (hm b _ q fun z=>z),q];simp⟩⟩
 by_cases hbe:b=e
 ·subst hbe;exact heo
 ·exact ⟨u,k b u hbe q⟩
end
def trk (h:Heap) (H:Hp):List Ac:=(List.range h.objs.size).filter fun a=>(H a).isSome
def XE (h:Heap) (H:Hp):Heap:=PySem.W.hideAll h (trk h H)
theorem qb7 (h:Heap) (H:Hp):(XE h H).objs.size=h.objs.size:=PySem.W.hideAll_size _ _
theorem qe0 {h:Heap} {H:Hp} {b:Ac} {o:Obj} (e:h.get? b=some o) (n:H b=none):(XE h H).get? b=some o:=
 PySem.W.hideAll_get _ e fun hm=>by
  have q:(H b).isSome=true:=(List.mem_filter.mp hm).2;rw [n] at q;simp at q
theorem qg7 {h:Heap} {H:Hp} {b:Ac} {o:Obj} (e:(XE h H).get? b=some o):h.get? b=some o∧H b=none:=by
 have e':h.get? b=some o:=PySem.W.of_hideAll (trk h H) e;refine ⟨e',?_⟩;cases q:H b with
 | none=>rfl
 | some x=>
  have hm:b∈trk h H:=List.mem_filter.mpr ⟨Dj.mpr (A7 e'),by simp [q]⟩
  have z:(XE h H).get? b=none:=PySem.W.hideAll_none (trk h H) hm;rw [z] at e;cases e
structure Mod (K:Frag) (mg:Str→Option Ab) (base:Heap):Prop where
 kin:K.In base
 glob:base.Ns Aq mg
 blt:∃ mb,base.Ns builtinsNs mb∧∀ x:Str,x≠"__name__"→mb x=bootBuiltins x
 nolimit:base.NoLimit
structure Cx where
 prog:Program
 w:World
 K:Frag
 mg:Str→Option Ab
 base:Heap
 A:Around
 N:List Str
 s₀:Ae
 H₀:Hp
 env:Env
 outer:List Env
 stack:List Env
 ex:List Ac
 fn:Str→Bool
 calm:Bool
 pn:List (Ac×Obj)
 xe:Ab→Ae→Prop
def frs (l:List Env):List Ac:=l.filterMap (·.frame)
abbrev Cx.fs (X:Cx):List Ac:=frs X.outer
def Vis (sc:Scope) (x:Str):Prop:=sc.names.lookup x=some .local∨sc.names.lookup x=some .cell∨sc.names.lookup x=some .free
def Loc (sc:Scope) (x:Str):Prop:=sc.names.lookup x=some .local∨sc.names.lookup x=some .cell
def Look (env:Env) (h:Heap) (m:Str→Option Ab) (x:Str) (u:Ab):Prop:=
 (env.kindOf x=some .local∧m x=some u)∨((env.kindOf x=some .cell∨env.kindOf x=some .free)∧∃ c,env.cells.lookup x=some c∧h.IsCell c (some u))
structure Cx.Ok (X:Cx):Prop where
 mod:Mod X.K X.mg X.base
 kind:X.env.scope.kind= .function
 glob:X.env.globals=Aq
 blt:X.env.builtins=builtinsNs
 above:X.s₀.heap.objs.size≤X.env.locals
 inj:∀ x y c,X.env.cells.lookup x=some c→X.env.cells.lookup y=some c→x=y
 has:∀ x,(X.env.kindOf x=some .cell∨X.env.kindOf x=some .free)→∃ c,X.env.cells.lookup x=some c
 cab:∀ x c,X.fn x=true→X.env.cells.lookup x=some c→X.s₀.heap.objs.size≤c
 hd:X.calm=true→X.A.handled=none
 frames:X.A.frames=some X.stack
 stk:X.stack=X.outer∨(X.stack=X.env::X.outer∧X.env.frame=some X.env.locals)
 exf:∀ b∈X.ex,b≠X.env.locals∧∀ x c,X.env.cells.lookup x=some c→c≠b
 bs:∀ b o,X.base.get? b=some o→X.s₀.heap.get? b=some o∧X.H₀ b=none
 bsz:X.base.objs.size≤X.s₀.heap.objs.size
 noex:∀ b o,X.base.get? b=some o→b∉X.ex
 exfs:∀ b∈X.ex,b∉X.fs
 funs:X.s₀.heap.FunFrames X.base X.outer
 frf:∀ b∈X.fs,X.H₀ b=none
structure Inv (X:Cx) (pins:List (Ac×Obj)) (σ:List (Option V)) (H:Hp) (s:Ae):Prop where
 ok:X.Ok
 os:s.os=X.s₀.os
 bare:AllBare s.gens
 base:Un X.fs X.ex X.H₀ H X.s₀.heap s.heap
 loc:∃ m,s.heap.Ns X.env.locals m∧∀ (i:Nat) (x:Str) (v:V),X.N[i]?=some x→σ[i]?=some (some v)→Vis X.env.scope x→∃ u,qL v u∧Look X.env s.heap m x u
 cell:∀ x c,X.env.cells.lookup x=some c→∃ v,s.heap.IsCell c v
 free:H X.env.locals=none
 freeC:∀ x c,X.env.cells.lookup x=some c→H c=none
 pin:∀ p∈X.pn++pins,s.heap.get? p.1=some p.2∧H p.1=none∧p.1≠X.env.locals∧p.1∉X.fs∧∀ v,p.2.data≠ .cell v
 hok:HOk X.prog X.w H s.heap
 len:σ.length=X.N.length
section
variable {X:Cx} {pins:List (Ac×Obj)} {σ:List (Option V)} {H H':Hp} {s:Ae} {h':Heap}
theorem Cx.Ok.nofr (ok:X.Ok) {b:Ac} {o:Obj} (e:X.base.get? b=some o):b∉X.fs:=fun hb=>by
 have:=(ok.funs.mem hb).1;rw [e] at this;cases this
theorem Inv.bs (I:Inv X pins σ H s):∀ b o,X.base.get? b=some o→s.heap.get? b=some o∧H b=none:=fun b o e=>
 ⟨I.base.keep b o (I.ok.bs b o e).1 (I.ok.bs b o e).2 (I.ok.nofr e) (I.ok.noex b o e),I.base.free b o (I.ok.bs b o e).1 (I.ok.bs b o e).2 (I.ok.noex b o e)⟩
theorem Inv.bk (I:Inv X pins σ H s):∀ b o,X.base.get? b=some o→s.heap.get? b=some o:=fun b o e=>(I.bs b o e).1
theorem Inv.mod (I:Inv X pins σ H s):Mod X.K X.mg X.base:=I.ok.mod
theorem Inv.kIn (I:Inv X pins σ H s):X.K.In s.heap:=I.ok.mod.kin.keeps I.bk
theorem Inv.lt (I:Inv X pins σ H s):X.env.locals<s.heap.objs.size:=let ⟨_,hn,_⟩:=I.loc;hn.lt
theorem Inv.sz (I:Inv X pins σ H s):X.s₀.heap.objs.size≤s.heap.objs.size:=Aw I.ok.above (Nat.le_of_lt I.lt)
theorem Inv.nofs (I:Inv X pins σ H s) {a:Ac} (h:s.heap.objs.size≤a):a∉X.fs:=fun hb=>by
 obtain ⟨_,o,ho,_⟩:=I.ok.funs.mem hb;exact absurd (Bj (A7 ho) (Aw I.sz h)) (Cq _)
theorem Inv.cne (I:Inv X pins σ H s):∀ x c,X.env.cells.lookup x=some c→c≠X.env.locals:=fun x c e z=>by
 obtain ⟨v,o,ho,hd⟩:=I.cell x c e;obtain ⟨m,⟨o',es,ep,ho',hd',_⟩,_⟩:=I.loc;rw [z,ho'] at ho;cases ho;rw [hd'] at hd;cases hd
theorem Inv.funs (I:Inv X pins σ H s):s.heap.FunFrames X.base X.outer:=by
 have all:∀ (l:List Env),(∀ b∈frs l,b∈X.fs)→X.s₀.heap.FunFrames X.base l→s.heap.FunFrames X.base l:=by
  intro l
  induction l with
  | nil=>intro _ _;trivial
  | cons env r ih=>
   intro hs hl;obtain ⟨hk,⟨L,o,hf,hn,ho,hd⟩,hr⟩:=hl;have hL:L∈X.fs:=hs L (by unfold frs;rw [El,hf];exact Au)
   obtain ⟨sl,e⟩:=I.base.slot L o ho (I.ok.frf L hL) hL fun z=>I.ok.exfs L z hL;exact ⟨hk,⟨L,_,hf,hn,e,hd⟩,ih (fun b hb=>hs b (by unfold frs;rw [El,hf];exact Ao _ hb)) hr⟩
 exact all X.outer (fun _ hb=>hb) I.ok.funs
theorem Inv.stack (I:Inv X pins σ H s):s.heap.FunFrames X.base X.stack:=by
 rcases I.ok.stk with e | ⟨e,hf⟩
 ·rw [e];exact I.funs
 ·rw [e];obtain ⟨m,hn,_⟩:=I.loc;refine .cons (by rw [I.ok.kind];decide) hf hn ?_ I.funs
  exact Heap.get?_none_of_le (Aw I.ok.bsz I.ok.above)
theorem Inv.stkSub (I:Inv X pins σ H s):∀ b∈frs X.stack,b∈X.env.locals::X.fs:=fun b hb=>by
 rcases I.ok.stk with e | ⟨e,hf⟩
 ·rw [e] at hb;exact Ao _ hb
 ·rw [e] at hb;unfold frs at hb;rw [El,hf] at hb;exact hb
theorem Inv.stkFree (I:Inv X pins σ H s):∀ b∈frs X.stack,H b=none:=fun b hb=>by
 rcases Ap.mp (I.stkSub b hb) with e | hb
 ·rw [e];exact I.free
 ·obtain ⟨_,o,ho,_⟩:=I.ok.funs.mem hb;exact I.base.free b o ho (I.ok.frf b hb) fun z=>I.ok.exfs b z hb
theorem Inv.step {g':Array GenState} {t':Nat} {d':Drawn} {ch:List Ac} (I:Inv X pins σ H s)
  (hch:∀ b∈ch,(b∈X.ex∨X.s₀.heap.objs.size≤b)∧b≠X.env.locals∧(∀ x c,X.env.cells.lookup x=some c→c≠b)∧∀ p∈X.pn++pins,p.1≠b)
  (keep:∀ b o,b≠X.env.locals→b∉X.fs→b∉ch→s.heap.get? b=some o→H b=none→h'.get? b=some o)
  (slot:∀ b o,b≠X.env.locals→b∈X.fs→b∉ch→s.heap.get? b=some o→H b=none→∃ sl,h'.get? b=some {o with slots:=sl}) (free:∀ b o,b∉ch→s.heap.get? b=some o→H b=none→H' b=none)
  (there:∀ b o,b∉ch→s.heap.get? b=some o→∃ o',h'.get? b=some o')
  (tups:∀ b xs,H b=some (.tup xs)→H' b=some (.tup xs)) (frzs:∀ b o u,H b=some (.frz o u)→H' b=some (.frz o u)) (tbls:∀ b ps,H b=some (.tbl ps)→∃ more,H' b=some (.tbl (ps++more)))
  (ns:∀ m,s.heap.Ns X.env.locals m→h'.Ns X.env.locals m) (hok:HOk X.prog X.w H' h') (hg:AllBare g'):
  Inv X pins σ H' {s with heap:=h',gens:=g',drawn:=d',toks:=t'}:=by
 have neL:∀ b o,X.s₀.heap.get? b=some o→b≠X.env.locals:=fun b o e=>Bu (Bj (A7 e) I.ok.above);have neC:∀ b o,X.s₀.heap.get? b=some o→b∉X.ex→b∉ch:=fun b o e hx hb=>by
  rcases (hch b hb).1 with z | z
  ·exact hx z
  ·exact absurd (Bj (A7 e) z) (Cq _)
 have cellK:∀ x c,X.env.cells.lookup x=some c→∀ v,s.heap.IsCell c v→h'.IsCell c v:=fun x c e v ⟨o,ho,hd⟩=>by
  have nch:c∉ch:=fun z=>(hch c z).2.2.1 x c e rfl
  by_cases hc:c∈X.fs
  ·obtain ⟨sl,q⟩:=slot c o (I.cne x c e) hc nch ho (I.freeC x c e);exact ⟨_,q,hd⟩
  ·exact ⟨o,keep c o (I.cne x c e) hc nch ho (I.freeC x c e),hd⟩
 refine ⟨I.ok,I.os,hg,⟨fun b o e n hb hx=>?_,fun b o e n hb hx=>?_,fun b o e n hx=>?_,fun b o e hx=>?_,fun b xs e=>tups b xs (I.base.tups b xs e),fun b o xs e=>frzs b o xs (I.base.frzs b o xs e),fun b ps e=>?_⟩,?_,fun x c e=>?_,?_,fun x c e=>?_,fun p hp=>?_,hok,I.len⟩
 ·exact keep b o (neL b o e) hb (neC b o e hx) (I.base.keep b o e n hb hx) (I.base.free b o e n hx)
 ·obtain ⟨sl,e1⟩:=I.base.slot b o e n hb hx;obtain ⟨sl',e2⟩:=slot b _ (neL b o e) hb (neC b o e hx) e1 (I.base.free b o e n hx);exact ⟨sl',e2⟩
 ·obtain ⟨o',e1⟩:=I.base.there b o e hx;exact free b o' (neC b o e hx) e1 (I.base.free b o e n hx)
 ·obtain ⟨o',e1⟩:=I.base.there b o e hx;exact there b o' (neC b o e hx) e1
 ·obtain ⟨m1,e1⟩:=I.base.tbls b ps e;obtain ⟨m2,e2⟩:=tbls b _ e1;exact ⟨m1++m2,by rw [e2,Array.append_assoc]⟩
 ·obtain ⟨m,hn,hl⟩:=I.loc;refine ⟨m,ns m hn,fun i x v e1 e2 e3=>?_⟩;obtain ⟨u,r,l⟩:=hl i x v e1 e2 e3;refine ⟨u,r,?_⟩;rcases l with l | ⟨k,c,e,z⟩
  ·exact .inl l
  ·exact .inr ⟨k,c,e,cellK x c e _ z⟩
 ·obtain ⟨v,z⟩:=I.cell x c e;exact ⟨v,cellK x c e v z⟩
 ·obtain ⟨m,⟨o,_,_,ho,_⟩,_⟩:=I.loc;exact free _ o (fun z=>(hch _ z).2.1 rfl) ho I.free
 ·obtain ⟨v,o,ho,hd⟩:=I.cell x c e;exact free c o (fun z=>(hch c z).2.2.1 x c e rfl) ho (I.freeC x c e)
 ·obtain ⟨e,n,ne,nf,d⟩:=I.pin p hp;have nch:p.1∉ch:=fun z=>(hch p.1 z).2.2.2 p hp rfl;exact ⟨keep p.1 p.2 ne nf nch e n,free p.1 p.2 nch e n,ne,nf,d⟩
theorem Inv.un {t':Nat} (I:Inv X pins σ H s) (u:Un X.fs [] H H' s.heap h') (hok:HOk X.prog X.w H' h'):Inv X pins σ H' {s with heap:=h',toks:=t'}:=by
 obtain ⟨m,⟨o,es,ep,ho,r⟩,_⟩:=id I.loc;obtain ⟨sl,hL⟩:=u.any ho I.free (by simp)
 exact I.step (g':=s.gens) (d':=s.drawn) (ch:=[]) (fun _ z=>nomatch z) (fun b o _ hb _ e n=>u.keep b o e n hb (by simp)) (fun b o _ hb _ e n=>u.slot b o e n hb (by simp)) (fun b o _ e n=>u.free b o e n (by simp)) (fun b o _ e=>u.there b o e (by simp)) u.tups u.frzs u.tbls (fun m' hm=>by
  obtain ⟨o',es',ep',ho',r'⟩:=hm;rw [ho] at ho';cases ho';exact ⟨_,es',ep',hL,r'⟩) hok I.bare
theorem Inv.call {g':Array GenState} {t':Nat} {d':Drawn} {ch:List Ac} (I:Inv X pins σ H s) (u:Un (frs X.stack) ch H H' s.heap h') (hok:HOk X.prog X.w H' h') (hg:AllBare g')
  (hch:∀ b∈ch,(b∈X.ex∨X.s₀.heap.objs.size≤b)∧b≠X.env.locals∧(∀ x c,X.env.cells.lookup x=some c→c≠b)∧∀ p∈X.pn++pins,p.1≠b):
  Inv X pins σ H' {s with heap:=h',gens:=g',drawn:=d',toks:=t'}:=by
 obtain ⟨m,⟨o,es,ep,ho,r⟩,_⟩:=id I.loc;obtain ⟨sl,hL⟩:=u.any ho I.free fun z=>(hch _ z).2.1 rfl;exact I.step (ch:=ch) hch (fun b o hL hb hc e n=>u.keep b o e n (fun z=>(Ap.mp (I.stkSub b z)).elim hL hb) hc) (fun b o _ _ hc e n=>u.any e n hc) (fun b o hc e n=>u.free b o e n hc) (fun b o hc e=>u.there b o e hc) u.tups u.frzs u.tbls (fun m' hm=>by
  obtain ⟨o',es',ep',ho',r'⟩:=hm;rw [ho] at ho';cases ho';exact ⟨_,es',ep',hL,r'⟩) hok hg
theorem Inv.turned {t':Nat} {it:Ac} (I:Inv X pins σ H s) (k:∀ b o,b≠it→s.heap.get? b=some o→h'.get? b=some o) (hn:H it=none) (hL:it≠X.env.locals)
  (h1:it∈X.ex∨X.s₀.heap.objs.size≤it) (h2:∀ x c,X.env.cells.lookup x=some c→c≠it) (h3:∀ p∈X.pn++pins,p.1≠it):Inv X pins σ H {s with heap:=h',toks:=t'}:=by
 have nit:∀ b u,H b=some u→b≠it:=fun b u e z=>by rw [z,hn] at e;cases e
 refine I.step (g':=s.gens) (d':=s.drawn) (ch:=[it]) (fun b hb=>?_) (fun b o _ _ hc e _=>k b o (fun z=>hc (by simp [z])) e) (fun b o _ _ hc e _=>⟨o.slots,k b o (fun z=>hc (by simp [z])) e⟩) (fun _ _ _ _ n=>n)
  (fun b o hc e=>⟨o,k b o (fun z=>hc (by simp [z])) e⟩) (fun _ _ e=>e) (fun _ _ _ e=>e) (fun b ps e=>⟨#[],by rw [e];simp⟩) (fun m hm=>?_) (fun b u e=>?_) I.bare
 ·have e:b=it:=by simpa using hb
  subst e;exact ⟨h1,hL,h2,h3⟩
 ·obtain ⟨o,es,ep,ho,r⟩:=hm;exact ⟨o,es,ep,k _ o (Ne.symm hL) ho,r⟩
 ·refine (I.hok b u e).stay (fun c v hc q=>k c v ?_ q) (fun _ q=>q) fun _ _ q=>q;rcases hc with z | z
  ·rw [z];exact nit b u e
  ·exact nit c _ z
theorem Inv.tok (I:Inv X pins σ H s) (t:Nat):Inv X pins σ H {s with toks:=t}:=I.un (h':=s.heap) (t':=t) Un.refl I.hok
theorem Inv.kept {t':Nat} (I:Inv X pins σ H s) (k:∀ b u,s.heap.get? b=some u→h'.get? b=some u):Inv X pins σ H {s with heap:=h',toks:=t'}:=I.un (Un.kept k) (I.hok.kept k)
theorem Inv.laid {a:Ac} {o:HO} {t':Nat} (I:Inv X pins σ H s) (k:∀ b u,s.heap.get? b=some u→h'.get? b=some u) (hp:s.heap.objs.size≤a) (new:zq X.prog X.w (upd H a o) h' a o):
  Inv X pins σ (upd H a o) {s with heap:=h',toks:=t'}:=I.un (Un.laid k hp (I.hok.fresh hp)) (I.hok.laid k hp new)
theorem Inv.write {x e:Ac} {o:HO} {t':Nat} (I:Inv X pins σ H s) (mu:Mut (H x)) (he:e=x∨H e=some (.own x)) (k:∀ b u,b≠e→s.heap.get? b=some u→h'.get? b=some u) (heo:∃ u,h'.get? e=some u)
  (new:zq X.prog X.w (upd H x o) h' x o):Inv X pins σ (upd H x o) {s with heap:=h',toks:=t'}:=I.un (Un.write mu he k heo) (I.hok.write mu he k heo new)
theorem Inv.weak {σ':List (Option V)} (I:Inv X pins σ H s) (hl:σ'.length=σ.length) (w:∀ (i:Nat) v,σ'[i]?=some (some v)→σ[i]?=some (some v)):Inv X pins σ' H s:=
 ⟨I.ok,I.os,I.bare,I.base,let ⟨m,hn,hl'⟩:=I.loc;⟨m,hn,fun i x v e1 e2 e3=>hl' i x v e1 (w i v e2) e3⟩,I.cell,I.free,I.freeC,I.pin,I.hok,hl.trans I.len⟩
theorem Inv.pins_of {pins':List (Ac×Obj)} (I:Inv X pins σ H s) (h:∀ p∈pins',s.heap.get? p.1=some p.2∧H p.1=none∧p.1≠X.env.locals∧p.1∉X.fs∧∀ v,p.2.data≠ .cell v):Inv X pins' σ H s:=
 ⟨I.ok,I.os,I.bare,I.base,I.loc,I.cell,I.free,I.freeC,fun p hp=>(Ci.mp hp).elim (fun z=>I.pin p (B1 _ z)) (h p),I.hok,I.len⟩
theorem ZB {N:List Str} (hN:N.Nodup) {i j:Nat} {x:Str} (a:N[i]?=some x) (b:N[j]?=some x):i=j:=by
 obtain ⟨h1,e1⟩:=Cf.mp a;obtain ⟨h2,e2⟩:=Cf.mp b;exact (List.getElem_inj hN).mp (e1.trans e2.symm)
theorem Yt {M:Model} {A:Around} {E:Ab→Ae→Prop} {i:Nat} {x:Str} {v:V} {u:Ab} {Q:Unit→Ae→Prop} (I:Inv X pins σ H s) (hN:X.N.Nodup) (hi:X.N[i]?=some x) (hx:Loc X.env.scope x) (r:qL v u)
  (h:∀ s',Inv X pins (σ.set i (some v)) H s'→(∃ a,Heap.SameBut a s.heap s'.heap∧(a=X.env.locals∨X.env.cells.lookup x=some a))→Q () s') (hf:X.fn x=true∨X.env.scope.names.lookup x=some .local:=by first | exact .inl rfl | exact .inr rfl | assumption):wpAny M A (storeName X.env x u) Q E s:=by
 obtain ⟨m,hn,hl⟩:=id I.loc;have hcls:(X.env.scope.kind== .class||(X.env.scope.kind== .module&&X.env.locals !=X.env.globals))=false:=by rw [I.ok.kind];rfl
 have hiσ:i<σ.length:=by rw [I.len];exact (Cf.mp hi).1
 have cne:=I.cne;have tracked:∀ {a:Ac} {h':Heap},(∃ o,s.heap.get? a=some o∧H a=none)→Heap.SameBut a s.heap h'→HOk X.prog X.w H h':=fun {a h'} ha hs b ob e=>by
  obtain ⟨_,_,hfree⟩:=ha;refine (I.hok b ob e).stay (fun c w' hc q=>(hs.2 c ?_).trans q) (fun _ q=>q) fun _ _ q=>q;rintro rfl;rcases hc with rfl | hc
  ·rw [hfree] at e;cases e
  ·rw [hfree] at hc;cases hc
 rcases hx with hk | hk
 ·refine wpAny_storeName_local hk hn (fun h' hn' hs=>?_) hcls;obtain ⟨oL,_,_,hoL,_⟩:=id hn;refine h _ ⟨I.ok,I.os,I.bare,⟨fun b o e n hb hx=>?_,fun b o e n hb hx=>?_,I.base.free,fun b o e hx=>?_,I.base.tups,I.base.frzs,I.base.tbls⟩,⟨_,hn',fun j y v' e1 e2 e3=>?_⟩,fun y c e=>?_,I.free,I.freeC,fun p hp=>?_,tracked ⟨oL,hoL,I.free⟩ hs,by simpa using I.len⟩ ⟨_,hs,.inl rfl⟩
  ·exact (hs.2 b (Bu (Bj (A7 e) I.ok.above))).trans (I.base.keep b o e n hb hx)
  ·obtain ⟨sl,e1⟩:=I.base.slot b o e n hb hx;exact ⟨sl,(hs.2 b (Bu (Bj (A7 e) I.ok.above))).trans e1⟩
  ·obtain ⟨o',e1⟩:=I.base.there b o e hx;exact ⟨o',(hs.2 b (Bu (Bj (A7 e) I.ok.above))).trans e1⟩
  ·by_cases hj:j=i
   ·subst hj;rw [hi] at e1;cases e1;rw [List.getElem?_set_self hiσ] at e2;cases e2;exact ⟨u,r,.inl ⟨hk,by simp⟩⟩
   ·rw [Dv (Ne.symm hj)] at e2;obtain ⟨u',r',q⟩:=hl j y v' e1 e2 e3;refine ⟨u',r',?_⟩;rcases q with ⟨k,e⟩ | ⟨k,c,e,z⟩
    ·refine .inl ⟨k,?_⟩;have:y≠x:=fun e=>hj (ZB hN e1 (e▸hi));simp [this,e]
    ·exact .inr ⟨k,c,e,z.sameBut hs (cne y c e)⟩
  ·obtain ⟨w',z⟩:=I.cell y c e;exact ⟨w',z.sameBut hs (cne y c e)⟩
  ·obtain ⟨e,n,ne,nf,d⟩:=I.pin p hp;exact ⟨(hs.2 p.1 ne).trans e,n,ne,nf,d⟩
 ·have hfn:X.fn x=true:=by
   rcases hf with z | z
   ·exact z
   ·rw [z] at hk;cases hk
  obtain ⟨c,hc⟩:=I.ok.has x (.inl hk);obtain ⟨w',z⟩:=I.cell x c hc;refine wpAny_storeName_cell I.ok.kind hk hc z (fun h' hc' hs=>?_);obtain ⟨oc,hoc,hocd⟩:=id z;refine h {s with heap:=h'} ⟨I.ok,I.os,I.bare,⟨fun b o e n hb hx=>?_,fun b o e n hb hx=>?_,I.base.free,fun b o e hx=>?_,I.base.tups,I.base.frzs,I.base.tbls⟩,⟨m,hn.sameBut hs (Ne.symm (cne x c hc)),fun j y v' e1 e2 e3=>?_⟩,fun y c' e=>?_,I.free,I.freeC,fun p hp=>?_,tracked ⟨oc,hoc,I.freeC x c hc⟩ hs,by simpa using I.len⟩ ⟨c,hs,.inr hc⟩
  ·exact (hs.2 b (Bu (Bj (A7 e) (I.ok.cab x c hfn hc)))).trans (I.base.keep b o e n hb hx)
  ·obtain ⟨sl,e1⟩:=I.base.slot b o e n hb hx;exact ⟨sl,(hs.2 b (Bu (Bj (A7 e) (I.ok.cab x c hfn hc)))).trans e1⟩
  ·obtain ⟨o',e1⟩:=I.base.there b o e hx;exact ⟨o',(hs.2 b (Bu (Bj (A7 e) (I.ok.cab x c hfn hc)))).trans e1⟩
  ·by_cases hj:j=i
   ·subst hj;rw [hi] at e1;cases e1;rw [List.getElem?_set_self hiσ] at e2;cases e2;exact ⟨u,r,.inr ⟨.inl hk,c,hc,hc'⟩⟩
   ·rw [Dv (Ne.symm hj)] at e2;obtain ⟨u',r',q⟩:=hl j y v' e1 e2 e3;refine ⟨u',r',?_⟩;rcases q with q | ⟨k,c',e,z'⟩
    ·exact .inl q
    ·refine .inr ⟨k,c',e,z'.sameBut hs ?_⟩;rintro rfl;exact hj (ZB hN e1 (I.ok.inj _ _ _ e hc▸hi))
  ·by_cases hcc:c'=c
   ·subst hcc;exact ⟨_,hc'⟩
   ·obtain ⟨w2,z2⟩:=I.cell y c' e;exact ⟨w2,z2.sameBut hs hcc⟩
  ·obtain ⟨e,n,ne,nf,d⟩:=I.pin p hp;refine ⟨(hs.2 p.1 ?_).trans e,n,ne,nf,d⟩;intro q;rw [q,hoc] at e;have q':oc=p.2:=Bb e;exact d w' (by rw [← q'];exact hocd)
theorem WL {M:Model} {A:Around} {E:Ab→Ae→Prop} {i:Nat} {x:Str} {v:V} {u:Ab} {Q:Unit→Ae→Prop} (I:Inv X pins σ H s) (hN:X.N.Nodup) (hi:X.N[i]?=some x) (hx:Loc X.env.scope x) (r:qL v u)
  (h:∀ s',Inv X pins (σ.set i (some v)) H s'→Q () s') (hf:X.fn x=true∨X.env.scope.names.lookup x=some .local:=by first | exact .inl rfl | exact .inr rfl | assumption):wpAny M A (storeName X.env x u) Q E s:=
 Yt I hN hi hx r (fun s' I' _=>h s' I') hf
theorem Inv.call' {s':Ae} {ch:List Ac} (I:Inv X pins σ H s) (ho:s'.os=s.os) (u:Un (frs X.stack) ch H H' s.heap s'.heap) (hok:HOk X.prog X.w H' s'.heap) (hg:AllBare s'.gens)
  (hch:∀ b∈ch,(b∈X.ex∨X.s₀.heap.objs.size≤b)∧b≠X.env.locals∧(∀ x c,X.env.cells.lookup x=some c→c≠b)∧∀ p∈X.pn++pins,p.1≠b):Inv X pins σ H' s':=by
 obtain ⟨h',g',d',t',o'⟩:=s';have e:o'=s.os:=ho;subst e;exact I.call (g':=g') (t':=t') (d':=d') u hok hg hch
end
abbrev XK:=Ab→Option Ac→Hp→Prop
abbrev St:=List (Option V)
abbrev VK:=V→Hp→Prop
abbrev TE:=St→Hp→VK→Prop
abbrev TT:=St→Hp→(Bool→Hp→Prop)→Prop
abbrev TA:=St→Hp→(List V→Hp→Prop)→Prop
structure Ends where
 nx:St→Hp→Prop
 rt:VK
 bk:St→Hp→Prop:=fun _ _=>False
 ct:St→Hp→Prop:=fun _ _=>False
abbrev TS:=Ends→St→Hp→Prop
def EP (X:Cx) (pins:List (Ac×Obj)) (σ:St) (Q:VK) (u:Ab) (s':Ae):Prop:=∃ v H',Inv X pins σ H' s'∧qL v u∧Q v H'
def TP (X:Cx) (pins:List (Ac×Obj)) (σ:St) (Q:Bool→Hp→Prop) (b:Bool) (s':Ae):Prop:=∃ H',Inv X pins σ H' s'∧Q b H'
def AP (X:Cx) (pins:List (Ac×Obj)) (σ:St) (Q:List V→Hp→Prop) (us:List Ab) (s':Ae):Prop:=∃ vs H',Inv X pins σ H' s'∧qH vs us∧Q vs H'
def SP (X:Cx) (pins:List (Ac×Obj)) (D:Ends) (f:Flow) (s':Ae):Prop:=
 match f with
 | .next=>∃ σ' H',Inv X pins σ' H' s'∧D.nx σ' H'
 | .brk=>∃ σ' H',Inv X pins σ' H' s'∧D.bk σ' H'
 | .cont=>∃ σ' H',Inv X pins σ' H' s'∧D.ct σ' H'
 | .ret u=>∃ v σ' H',Inv X pins σ' H' s'∧qL v u∧D.rt v H'
def PE (X:Cx) (e:Expr) (t:TE):Prop:=
 ∀ (pins:List (Ac×Obj)) (s:Ae) (σ:St) (H:Hp) (Q:VK),Inv X pins σ H s→t σ H Q→wpAny (model X.prog X.w) X.A (eval e X.env) (EP X pins σ Q) X.xe s
def PT (X:Cx) (e:Expr) (t:TT):Prop:=
 ∀ (pins:List (Ac×Obj)) (s:Ae) (σ:St) (H:Hp) (Q:Bool→Hp→Prop),Inv X pins σ H s→t σ H Q→wpAny (model X.prog X.w) X.A (isTrue e X.env (eval e X.env)) (TP X pins σ Q) X.xe s
def PW (X:Cx) (e:Expr) (t:TT):Prop:=
 ∀ (whole:Sem Ab) (pins:List (Ac×Obj)) (s:Ae) (σ:St) (H:Hp) (Q:Bool→Hp→Prop),Inv X pins σ H s→t σ H Q→wpAny (model X.prog X.w) X.A (isTrue e X.env whole) (TP X pins σ Q) X.xe s
theorem PW.pt {X:Cx} {e:Expr} {t:TT} (h:PW X e t):PT X e t:=h _
def PA (X:Cx) (es:List Expr) (t:TA):Prop:=
 ∀ (pos:Pos) (pins:List (Ac×Obj)) (s:Ae) (σ:St) (H:Hp) (Q:List V→Hp→Prop),Inv X pins σ H s→t σ H Q→wpAny (model X.prog X.w) X.A (spliced (backTo pos (starEach es X.env))) (AP X pins σ Q) X.xe s
def PS (X:Cx) (st:Stmt) (t:TS):Prop:=
 ∀ (pins:List (Ac×Obj)) (s:Ae) (σ:St) (H:Hp) (D:Ends),Inv X pins σ H s→t D σ H→wpAny (model X.prog X.w) X.A (exec st X.env) (SP X pins D) X.xe s
def PSs (X:Cx) (st:List Stmt) (t:TS):Prop:=
 ∀ (pins:List (Ac×Obj)) (s:Ae) (σ:St) (H:Hp) (D:Ends),Inv X pins σ H s→t D σ H→wpAny (model X.prog X.w) X.A (execs st X.env) (SP X pins D) X.xe s
theorem thn {α:Type} {t:Sem α} {Q Q':α→Ae→Prop} {M:Model} {A:Around} {E:Ab→Ae→Prop} {s:Ae} (h:wpAny M A t Q E s) (hQ:∀ a s,Q a s→Q' a s):wpAny M A t Q' E s:=C9 h hQ fun _ _ x=>x
section
variable {X:Cx}
def qk (i:Nat):TE:=fun σ H Q=>∃ v,σ[i]?=some (some v)∧Q v H
def tC (v:V):TE:=fun _ H Q=>Q v H
theorem qi4 {i:Nat} {x:Str} {pos:Pos} (hN:X.N[i]?=some x) (hv:Vis X.env.scope x) (hd:(x==("__debug__":Str))=false:=by decide) (hcd:(x==("__classdict__":Str))=false:=by decide):PE X (.Name x pos) (qk i):=by
 intro pins s σ H Q I h;obtain ⟨v,e,h⟩:=h;obtain ⟨m,hn,hl⟩:=I.loc;obtain ⟨u,r,l⟩:=hl i x v hN e hv;have fin:EP X pins σ Q u s:=⟨v,H,I,r,h⟩;rcases l with ⟨hk,hm⟩ | ⟨hk,c,hc,hcell⟩
 ·exact wpAny_Name (wpAny_loadName_local I.ok.kind hk hn hm fin) hd
 ·rcases hk with hk | hk
  ·exact wpAny_Name (wpAny_loadName_cell I.ok.kind hk hc hcell fin) hd
  ·exact wpAny_Name (wpAny_loadName_free I.ok.kind hk hc hcell fin hcd) hd
theorem qd {i j pos}:PE X (.Constant (.int i) j pos) (tC (.int i)):=fun _ _ _ H _ I h=>wpAny_Constant_int ⟨.int i,H,I.tok _,⟨_,rfl⟩,h⟩
theorem zW {b j pos}:PE X (.Constant (.bool b) j pos) (tC (.bl b)):=fun _ _ _ H _ I h=>Constant_bool ⟨.bl b,H,I,rfl,h⟩
theorem W0 {j pos}:PE X (.Constant .none j pos) (tC .non):=fun _ _ _ H _ I h=>Constant_none ⟨.non,H,I,rfl,h⟩
theorem qg {x j pos}:PE X (.Constant (.str x) j pos) (tC (.str x)):=fun _ _ _ H _ I h=>Calls.Constant_str ⟨.str x,H,I.tok _,⟨_,rfl⟩,h⟩
def Gl (X:Cx) (x:Str):Prop:=X.env.kindOf x=some .globalImplicit
theorem JJ {E:Ab→Ae→Prop} {pins:List (Ac×Obj)} {s:Ae} {σ:St} {H:Hp} {x:Str} {u:Ab} {pos:Pos} {Q:Ab→Ae→Prop} (I:Inv X pins σ H s) (hg:Gl X x) (hm:X.mg x=some u) (h:Q u s)
  (hd:(x==("__debug__":Str))=false:=by decide):wpAny (model X.prog X.w) X.A (eval (.Name x pos) X.env) Q E s:=
 Calls.Name_function_global I.ok.kind hg (Calls.loadGlobal_global (by rw [I.ok.glob];exact I.mod.glob.keeps I.bk) hm h) hd
theorem yd {E:Ab→Ae→Prop} {pins:List (Ac×Obj)} {s:Ae} {σ:St} {H:Hp} {x:Str} {u:Ab} {pos:Pos} {Q:Ab→Ae→Prop} (I:Inv X pins σ H s) (hg:Gl X x) (hm:X.mg x=none) (hv:bootBuiltins x=some u) (h:Q u s)
  (hn:x≠"__name__":=by decide) (hd:(x==("__debug__":Str))=false:=by decide):wpAny (model X.prog X.w) X.A (eval (.Name x pos) X.env) Q E s:=by
 obtain ⟨mb,h1,h2⟩:=I.mod.blt;exact Calls.Name_function_global I.ok.kind hg (Calls.loadGlobal_builtin (by rw [I.ok.glob];exact I.mod.glob.keeps I.bk) hm (by rw [I.ok.blt];exact h1.keeps I.bk) ((h2 x hn).trans hv) h) hd
theorem qah {x:Str} {v:V} {u:Ab} {pos:Pos} (hg:Gl X x) (hm:X.mg x=some u) (r:qL v u) (hd:(x==("__debug__":Str))=false:=by decide):PE X (.Name x pos) (tC v):=
 fun _ _ _ H _ I h=>JJ I hg hm ⟨v,H,I,r,h⟩ hd
theorem qgz {x:Str} {v:V} {u:Ab} {pos:Pos} (hg:Gl X x) (hm:X.mg x=none) (hv:bootBuiltins x=some u) (r:qL v u) (hn:x≠"__name__":=by decide) (hd:(x==("__debug__":Str))=false:=by decide):PE X (.Name x pos) (tC v):=
 fun _ _ _ H _ I h=>yd I hg hm hv ⟨v,H,I,r,h⟩ hn hd
variable {a b:Expr} {ta tb:TE} {pos:Pos}
def PC (X:Cx) (op:CmpOp) (a b:Expr) (t:TE):Prop:=
 ∀ (pins:List (Ac×Obj)) (s:Ae) (σ:St) (H:Hp) (Q:VK),Inv X pins σ H s→t σ H Q→
  wpAny (model X.prog X.w) X.A (eval a X.env) (fun v s₁=>wpAny (model X.prog X.w) X.A (eval b X.env) (fun u s₂=>wpAny (model X.prog X.w) X.A (compareOp op v u) (EP X pins σ Q) X.xe s₂) X.xe s₁) X.xe s
def tB (t:TE):TT:=fun σ H Q=>t σ H fun x H1=>∃ c,x= .bl c∧Q c H1
theorem Qo {op:CmpOp} {t:TE} (h:PC X op a b t) (h1:behindInMarks op b=false:=by first | exact nobehind _ O0 O0 | rfl):PT X (.Compare a [op] [b] pos) (tB t):=by
 intro pins s σ H Q I hw;refine wpAny_isTrue_Compare1 (thn (h pins s σ H _ I hw) fun v s1 h1=>thn h1 fun u s2 h2=>thn h2 fun c s3 ⟨x,H1,I1,r1,q1⟩=>?_) h1;obtain ⟨d,rfl,q⟩:=q1;cases r1;exact Co ⟨H1,I1,q⟩
theorem zt {e:Expr} {t:TE} (h:PE X e t) (he:∀ whole,isTrue e X.env whole=(do let v ← whole;standAt e.pos;holding [v] (truthy v)):=by intro _;rfl):PT X e (tB t):=by
 intro pins s σ H Q I hw;refine isTrue_plain (thn (h pins s σ H _ I hw) fun v s1 ⟨x,H1,I1,r1,q1⟩=>?_) (he _);obtain ⟨d,rfl,q⟩:=q1;cases r1;exact Co ⟨H1,I1,q⟩
variable {tA tB':TT} {rest:List Expr}
def qc9 (t u:TT):TT:=fun σ H Q=>t σ H fun c H1=>if c=true then u σ H1 Q else Q false H1
def tOr (t u:TT):TT:=fun σ H Q=>t σ H fun c H1=>if c=true then Q true H1 else u σ H1 Q
def Z9 (t:TT):TT:=fun σ H Q=>t σ H fun c H1=>Q (!c) H1
theorem ve (ha:PT X a tA):PW X (.BoolOp .And [a] pos) tA:=by
 intro wh pins s σ H Q I h;refine isTrue_and (thn (ha pins s σ H Q I h) fun c s1 e=>?_);cases c with
 | true=>exact isTrue_and_nil e
 | false=>exact e
theorem jL (ha:PT X a tA):PW X (.BoolOp .Or [a] pos) tA:=by
 intro wh pins s σ H Q I h;refine isTrue_or (thn (ha pins s σ H Q I h) fun c s1 e=>?_);cases c with
 | false=>exact isTrue_or_nil e
 | true=>exact e
theorem Vq (ha:PT X a tA) (hb:PW X (.BoolOp .And (b::rest) pos) tB'):PW X (.BoolOp .And (a::b::rest) pos) (qc9 tA tB'):=by
 intro wh pins s σ H Q I h;refine isTrue_and (thn (ha pins s σ H _ I h) fun c s1 ⟨H1,I1,q1⟩=>?_);cases c with
 | true=>exact hb wh pins s1 σ H1 Q I1 q1
 | false=>exact ⟨H1,I1,q1⟩
theorem Jc (ha:PT X a tA) (hb:PW X (.BoolOp .Or (b::rest) pos) tB'):PW X (.BoolOp .Or (a::b::rest) pos) (tOr tA tB'):=by
 intro wh pins s σ H Q I h;refine isTrue_or (thn (ha pins s σ H _ I h) fun c s1 ⟨H1,I1,q1⟩=>?_);cases c with
 | true=>exact ⟨H1,I1,q1⟩
 | false=>exact hb wh pins s1 σ H1 Q I1 q1
theorem jd (ha:PT X a tA):PT X (.UnaryOp .Not a pos) (Z9 tA):=by
 intro pins s σ H Q I h;exact isTrue_not (ha pins s σ H (fun c H1=>Q (!c) H1) I h)
def qkb (ta tb:TE):TE:=fun σ H Q=>ta σ H fun x H1=>∃ c,x= .bl c∧if c=true then tb σ H1 Q else Q (.bl false) H1
def Z8 (ta tb:TE):TE:=fun σ H Q=>ta σ H fun x H1=>∃ c,x= .bl c∧if c=true then Q (.bl true) H1 else tb σ H1 Q
def qc7 (ta:TE):TE:=fun σ H Q=>ta σ H fun x H1=>∃ c,x= .bl c∧Q (.bl (!c)) H1
theorem JA {op} {t:TE} (h:PE X a t):PE X (.BoolOp op [a] pos) t:=fun pins s σ H Q I hw=>BoolOp_one (h pins s σ H Q I hw)
theorem wc (ha:PE X a ta) (hb:PE X (.BoolOp .And (b::rest) pos) tb):PE X (.BoolOp .And (a::b::rest) pos) (qkb ta tb):=by
 intro pins s σ H Q I h;refine BoolOp_and (thn (ha pins s σ H _ I h) fun v s1 ⟨x,H1,I1,r1,q1⟩=>?_);obtain ⟨c,rfl,q1⟩:=q1;cases r1;refine Co ?_;cases c with
 | true=>exact hb pins s1 σ H1 Q I1 q1
 | false=>exact ⟨.bl false,H1,I1,rfl,q1⟩
theorem WZ (ha:PE X a ta) (hb:PE X (.BoolOp .Or (b::rest) pos) tb):PE X (.BoolOp .Or (a::b::rest) pos) (Z8 ta tb):=by
 intro pins s σ H Q I h;refine BoolOp_or (thn (ha pins s σ H _ I h) fun v s1 ⟨x,H1,I1,r1,q1⟩=>?_);obtain ⟨c,rfl,q1⟩:=q1;cases r1;refine Co ?_;cases c with
 | false=>exact hb pins s1 σ H1 Q I1 q1
 | true=>exact ⟨.bl true,H1,I1,rfl,q1⟩
theorem Qr (ha:PE X a ta):PE X (.UnaryOp .Not a pos) (qc7 ta):=by
 intro pins s σ H Q I h;refine UnaryOp_ (thn (ha pins s σ H _ I h) fun v s1 ⟨x,H1,I1,r1,q1⟩=>?_);obtain ⟨c,rfl,q1⟩:=q1;cases r1;exact not_of (Co ⟨.bl (!c),H1,I1,rfl,q1⟩)
def tIf (t:TT) (ta tb:TE):TE:=fun σ H Q=>t σ H fun c H1=>if c=true then ta σ H1 Q else tb σ H1 Q
theorem vK {c:Expr} (hc:PT X c tA) (ha:PE X a ta) (hb:PE X b tb):PE X (.IfExp c a b pos) (tIf tA ta tb):=by
 intro pins s σ H Q I h;refine wpAny_IfExp (thn (hc pins s σ H _ I h) fun d s1 ⟨H1,I1,q1⟩=>?_);cases d with
 | true=>exact ha pins s1 σ H1 Q I1 q1
 | false=>exact hb pins s1 σ H1 Q I1 q1
end
def SqL (K:Frag) (H:Hp) (a:Ac) (xs:List V):Prop:=
 Rd H a (.lst xs)∨
  ∃ (o:Obj) (its:Array Ab) (n:Nat),K.lookup a=some o∧o.cls= .type "list"∧o.dict=none∧o.data= .seq its n∧its.size≤Af∧qH xs its.toList
def SqT (K:Frag) (H:Hp) (a:Ac) (xs:List V):Prop:=
 Rd H a (.tup xs)∨
  ∃ (o:Obj) (its:Array Ab) (n:Nat),K.lookup a=some o∧o.cls= .type "tuple"∧o.data= .seq its n∧its.size≤Af∧qH xs its.toList
def absV:Ab→Option V
 | .none=>some .non
 | .bool b=>some (.bl b)
 | .int i _=>some (.int i)
 | .str x _=>some (.str x)
 | .bytes b _=>some (.byt b)
 | .float b _=>some (.flt b)
 | .ref a=>some (.ref a)
 | .type n=>some (.ty n)
 | _=>none
theorem qL.abs {x:V} {u:Ab} (r:qL x u):absV u=some x:=by
 cases x with
 | non=>cases r;rfl
 | bl _=>cases r;rfl
 | int _=>obtain ⟨t,rfl⟩:=r;rfl
 | str _=>obtain ⟨t,rfl⟩:=r;rfl
 | byt _=>obtain ⟨t,rfl⟩:=r;rfl
 | flt _=>obtain ⟨t,rfl⟩:=r;rfl
 | ref _=>cases r;rfl
 | ty _=>cases r;rfl
theorem qL.inj {x y:V} {u:Ab} (r:qL x u) (q:qL y u):x=y:=Bb (r.abs.symm.trans q.abs)
theorem qH.inj:∀ {xs ys:List V} {us:List Ab},qH xs us→qH ys us→xs=ys
 | _,_,_,.nil,.nil=>rfl
 | _,_,_,.cons r t,.cons r' t'=>by rw [r.inj r',qH.inj t t']
section
variable {X:Cx} {pins:List (Ac×Obj)} {σ:St} {H:Hp} {s:Ae} {a:Ac} {xs ys:List V}
theorem SqL.of {K:Frag} (h:H a=some (.lst xs)):SqL K H a xs:= .inl (.inl h)
theorem SqT.of {K:Frag} (h:H a=some (.tup xs)):SqT K H a xs:= .inl (.inl h)
theorem Inv.list (I:Inv X pins σ H s) (h:SqL X.K H a xs):∃ its:List Ab,qH xs its∧PlainL s.heap a its.toArray∧xs.length≤Af:=by
 rcases h with h | ⟨o,its,n,hk,hc,hd,hs,hz,r⟩
 ·obtain ⟨z,its,n,r,e⟩:=h.ok I.hok;exact ⟨its,r,⟨_,n,e,rfl,rfl,rfl⟩,z⟩
 ·refine ⟨its.toList,r,⟨o,n,I.kIn a o hk,hc,hd,by simpa using hs⟩,?_⟩
  have e:=r.length;simp only [Bn] at e;omega
theorem Inv.tuple (I:Inv X pins σ H s) (h:SqT X.K H a xs):∃ its:List Ab,qH xs its∧IsTup s.heap a its.toArray∧xs.length≤Af:=by
 rcases h with h | ⟨o,its,n,hk,hc,hs,hz,r⟩
 ·obtain ⟨z,its,r,p⟩:=h.ok I.hok;exact ⟨its,r,p,z⟩
 ·refine ⟨its.toList,r,⟨o,I.kIn a o hk,hc,n,by simpa using hs⟩,?_⟩
  have e:=r.length;simp only [Bn] at e;omega
theorem Inv.list_inj (I:Inv X pins σ H s) (h:SqL X.K H a xs) (h':SqL X.K H a ys):xs=ys:=by
 obtain ⟨its,r,⟨o,n,e,_,_,d⟩,_⟩:=I.list h;obtain ⟨its',r',⟨o',n',e',_,_,d'⟩,_⟩:=I.list h';rw [e] at e';cases e';rw [d] at d';injection d' with d1 _
 have:its=its':=by simpa using congrArg Array.toList d1
 subst this;exact r.inj r'
theorem Inv.tuple_inj (I:Inv X pins σ H s) (h:SqT X.K H a xs) (h':SqT X.K H a ys):xs=ys:=by
 obtain ⟨its,r,⟨o,e,_,n,d⟩,_⟩:=I.tuple h;obtain ⟨its',r',⟨o',e',_,n',d'⟩,_⟩:=I.tuple h';rw [e] at e';cases e';rw [d] at d';injection d' with d1 _
 have:its=its':=by simpa using congrArg Array.toList d1
 subst this;exact r.inj r'
end
abbrev Cx.wish (X:Cx) (E:Ab→Ae→Prop):Cx:={X with xe:=E}
abbrev Cx.nox (X:Cx):Cx:=X.wish fun _ _=>False
theorem Cx.Ok.wish {X:Cx} (ok:X.Ok) (E:Ab→Ae→Prop):(X.wish E).Ok:=
 ⟨ok.mod,ok.kind,ok.glob,ok.blt,ok.above,ok.inj,ok.has,ok.cab,ok.hd,ok.frames,ok.stk,ok.exf,ok.bs,ok.bsz,ok.noex,ok.exfs,ok.funs,ok.frf⟩
theorem Cx.Ok.unwish {X:Cx} {E:Ab→Ae→Prop} (ok:(X.wish E).Ok):X.Ok:=
 ⟨ok.mod,ok.kind,ok.glob,ok.blt,ok.above,ok.inj,ok.has,ok.cab,ok.hd,ok.frames,ok.stk,ok.exf,ok.bs,ok.bsz,ok.noex,ok.exfs,ok.funs,ok.frf⟩
section
variable {X:Cx} {pins:List (Ac×Obj)} {σ:St} {H:Hp} {s:Ae} {E:Ab→Ae→Prop}
theorem Inv.wish (I:Inv X pins σ H s) (E:Ab→Ae→Prop):Inv (X.wish E) pins σ H s:=⟨I.ok.wish E,I.os,I.bare,I.base,I.loc,I.cell,I.free,I.freeC,I.pin,I.hok,I.len⟩
theorem Inv.unwish (I:Inv (X.wish E) pins σ H s):Inv X pins σ H s:=⟨I.ok.unwish,I.os,I.bare,I.base,I.loc,I.cell,I.free,I.freeC,I.pin,I.hok,I.len⟩
theorem SP.unwish {D:Ends} {f:Flow} {s':Ae} (h:SP (X.wish E) pins D f s'):SP X pins D f s':=by
 cases f with
 | next=>obtain ⟨σ',H',I,q⟩:=h;exact ⟨σ',H',I.unwish,q⟩
 | brk=>obtain ⟨σ',H',I,q⟩:=h;exact ⟨σ',H',I.unwish,q⟩
 | cont=>obtain ⟨σ',H',I,q⟩:=h;exact ⟨σ',H',I.unwish,q⟩
 | ret u=>obtain ⟨v,σ',H',I,r,q⟩:=h;exact ⟨v,σ',H',I.unwish,r,q⟩
theorem PSs.nox {st:List Stmt} {t:TS} (h:PSs X.nox st t):PSs X st t:=fun pins s σ H D I hw=>
 C9 (h pins s σ H D (I.wish _) hw) (fun _ _ q=>q.unwish) fun _ _ z=>False.elim z
end
section
variable {X:Cx} {st:Stmt} {rest:List Stmt} {t u:TS} {e:Expr} {te:TE} {pos:Pos}
def zn:TS:=fun D σ H=>D.nx σ H
def qO (t u:TS):TS:=fun D σ H=>t {D with nx:=u D} σ H
theorem qt:PSs X [] zn:=fun _ _ σ H _ I h=>wpAny_execs_nil ⟨σ,H,I,h⟩
theorem qc (h1:PS X st t) (h2:PSs X rest u):PSs X (st::rest) (qO t u):=by
 intro pins s σ H D I h;refine wpAny_execs_cons (thn (h1 pins s σ H {D with nx:=u D} I h) fun f s1 q=>?_)
 cases f with
 | next=>
  obtain ⟨σ',H',I',q⟩:=q;exact h2 pins s1 σ' H' D I' q
 | ret v=>exact q
 | brk=>exact q
 | cont=>exact q
theorem qf (h1:PS X st t):PSs X [st] t:=by
 intro pins s σ H D I h;refine wpAny_execs_cons (thn (h1 pins s σ H D I h) fun f s1 q=>?_);cases f with
 | next=>exact wpAny_execs_nil q
 | ret v=>exact q
 | brk=>exact q
 | cont=>exact q
theorem Inv.quiet {pins:List (Ac×Obj)} {σ:St} {H:Hp} {s:Ae} (I:Inv X pins σ H s):interactive X.env=false:=by simp [interactive,I.ok.kind]
def vo (te:TE):TS:=fun D σ H=>te σ H fun _ H1=>D.nx σ H1
theorem zP (he:PE X e te) (hs:swapsWith e none pos.line X.env=pure false:=by rfl):PS X (.Expr e pos) (vo te):=by
 intro pins s σ H D I h;exact wpAny_Expr_any (thn (he pins s σ H _ I h) fun v s1 ⟨x,H1,I1,r1,q1⟩=>⟨σ,H1,I1,q1⟩) I.quiet hs
def zS (te:TE):TS:=fun D σ H=>te σ H D.rt
theorem qr (he:PE X e te):PS X (.Return (some e) pos) (zS te):=by
 intro pins s σ H D I h;exact wpAny_Return_some (thn (he pins s σ H _ I h) fun v s1 ⟨x,H1,I1,r1,q1⟩=>⟨x,σ,H1,I1,r1,q1⟩)
def zO (c:TT) (t u:TS):TS:=fun D σ H=>c σ H fun b H1=>if b=true then t D σ H1 else u D σ H1
theorem qD {c:Expr} {a b:List Stmt} {tc:TT} (hc:PT X c tc) (ha:PSs X a t) (hb:PSs X b u):PS X (.If c a b pos) (zO tc t u):=by
 intro pins s σ H D I h;refine wpAny_If (thn (hc pins s σ H _ I h) fun d s1 ⟨H1,I1,q1⟩=>?_);cases d with
 | true=>exact ha pins s1 σ H1 D I1 q1
 | false=>exact hb pins s1 σ H1 D I1 q1
end
abbrev TG:=V→St→Hp→(St→Hp→Prop)→Prop
abbrev TGs:=List V→St→Hp→(St→Hp→Prop)→Prop
def PG (X:Cx) (target:Expr) (t:TG):Prop:=
 ∀ (pins:List (Ac×Obj)) (s:Ae) (σ:St) (H:Hp) (v:V) (u:Ab) (Q:St→Hp→Prop),Inv X pins σ H s→qL v u→t v σ H Q→
  wpAny (model X.prog X.w) X.A (assign target X.env u) (fun _ s'=>∃ σ' H',Inv X pins σ' H' s'∧Q σ' H') X.xe s
def PGs (X:Cx) (ts:List Expr) (t:TGs):Prop:=
 ∀ (pins:List (Ac×Obj)) (s:Ae) (σ:St) (H:Hp) (vs:List V) (us:List Ab) (Q:St→Hp→Prop),Inv X pins σ H s→qH vs us→t vs σ H Q→
  wpAny (model X.prog X.w) X.A (assignInOrder ((assignEach ts X.env).map (·.2)) us) (fun _ s'=>∃ σ' H',Inv X pins σ' H' s'∧Q σ' H') X.xe s
abbrev qj6:=V→V→V→Hp→(Hp→Prop)→Prop
def qls (X:Cx) (t:qj6):Prop:=
 ∀ (pins:List (Ac×Obj)) (s:Ae) (σ:St) (H:Hp) (o i v:V) (ov iv u:Ab) (Q:Hp→Prop),Inv X pins σ H s→qL o ov→qL i iv→qL v u→t o i v H Q→
  wpAny (model X.prog X.w) X.A (setItem ov iv u) (fun _ s'=>∃ H',Inv X pins σ H' s'∧Q H') X.xe s
abbrev TIp:=V→V→Hp→VK→Prop
def PIp (X:Cx) (op:Operator) (t:TIp):Prop:=
 ∀ (pins:List (Ac×Obj)) (s:Ae) (σ:St) (H:Hp) (x y:V) (v u:Ab) (Q:VK),Inv X pins σ H s→qL x v→qL y u→t x y H Q→
  wpAny (model X.prog X.w) X.A (inplaceOp op v u) (EP X pins σ Q) X.xe s
section
variable {X:Cx} {pos:Pos}
def qE (i:Nat):TG:=fun v σ H Q=>Q (σ.set i (some v)) H
theorem zy {i:Nat} {x:Str} (hN:X.N.Nodup) (hi:X.N[i]?=some x) (hx:Loc X.env.scope x) (hf:X.fn x=true∨X.env.scope.names.lookup x=some .local:=by first | exact .inl rfl | exact .inr rfl | assumption):PG X (.Name x pos) (qE i):=by
 intro pins s σ H v u Q I r h;exact wpAny_assign_Name (WL I hN hi hx r (fun s' I'=>⟨_,H,I',h⟩) hf)
def ZM:TGs:=fun vs σ H Q=>vs=[]∧Q σ H
def Jk (t:TG) (u:TGs):TGs:=fun vs σ H Q=>∃ v r,vs=v::r∧t v σ H fun σ' H'=>u r σ' H' Q
theorem VJ:PGs X [] ZM:=by
 intro pins s σ H vs us Q I r h;obtain ⟨e,h⟩:=h;subst e;cases r;exact assignInOrder_nil ⟨σ,H,I,h⟩
theorem jm {e:Expr} {es:List Expr} {t:TG} {u:TGs} (h1:PG X e t) (h2:PGs X es u)
  (hs:(assignEach (e::es) X.env).map (·.2)=assign e X.env::(assignEach es X.env).map (·.2):=by rfl):PGs X (e::es) (Jk t u):=by
 intro pins s σ H vs us Q I r h;obtain ⟨v,vr,e1,h⟩:=h;subst e1;cases r with
 | cons r rr=>
  rw [hs];refine assignInOrder_cons (thn (h1 pins s σ H _ _ _ I r h) fun _ s1 ⟨σ1,H1,I1,q1⟩=>?_);exact h2 pins s1 σ1 H1 _ _ Q I1 rr q1
def XI (K:Frag) (n:Nat) (t:TGs):TG:=fun v σ H Q=>∃ a xs,v= .ref a∧SqT K H a xs∧xs.length=n∧t xs σ H Q
theorem qi2 {es:List Expr} {k:Nat} {t:TGs} {n:Nat} (hc:X.calm=true) (h:PGs X es t)
  (hn:(assignEach es X.env).length=n:=by rfl) (hst:(assignEach es X.env).findIdx? (·.1)=none:=by rfl):PG X (.Tuple es k pos) (XI X.K n t):=by
 intro pins s σ H v u Q I r hw;obtain ⟨a,xs,e1,hq,hl,hw⟩:=hw;subst e1;cases r;obtain ⟨its,rv,ht,hz⟩:=I.tuple hq;refine assign_Tuple_tuple (I.ok.hd hc) ht (by simp [hn,← hl,rv.length]) hst fun h' hx=>?_
 have I1:Inv X pins σ H {s with heap:=h'}:=I.kept (t':=s.toks) fun b o e=>hx b o (Bu (A7 e)) e
 exact h pins _ σ H xs _ Q I1 (by simpa using rv) hw
def gSub (to ti:TE) (t:qj6):TG:=fun v σ H Q=>to σ H fun o H1=>ti σ H1 fun i H2=>t o i v H2 fun H3=>Q σ H3
theorem qi3 {o i:Expr} {to ti:TE} {t:qj6} (ho:PE X o to) (hi:PE X i ti) (hs:qls X t)
  (ha:∀ v,assign (.Subscript o i pos) X.env v=(do
   let ov ← holding [v] (eval o X.env)
   let iv ← holding [v,ov] (eval i X.env)
   standAt pos
   holding [v,ov,iv] (setItem ov iv v)
   release [v,ov,iv] []):=by intro _;rfl):PG X (.Subscript o i pos) (gSub to ti t):=by
 intro pins s σ H v u Q I r h;rw [ha];refine Am (Ek (thn (ho pins s σ H _ I h) fun ov s1 ⟨x,H1,I1,r1,q1⟩=>?_));refine Am (Ek (thn (hi pins s1 σ H1 _ I1 q1) fun iv s2 ⟨y,H2,I2,r2,q2⟩=>?_));refine Am (wpAny_standAt (Am (Ek (thn (hs pins s2 σ H2 x y v ov iv u _ I2 r1 r2 r q2) fun _ s3 ⟨H3,I3,q3⟩=>?_))));exact wpAny_release ⟨σ,H3,I3,q3⟩
def zF (te:TE) (g:TG):TS:=fun D σ H=>te σ H fun x H1=>g x σ H1 D.nx
theorem qi0 {tg e:Expr} {te:TE} {g:TG} (he:PE X e te) (hg:PG X tg g) (hs:swapsWithSole [tg] e pos.line X.env=pure false:=by rfl) (hw:swappedStores [tg] e X.env=pure none:=by rfl)
  (h1:(assignEach [tg] X.env).map (·.2)=[assign tg X.env]:=by rfl):PS X (.Assign [tg] e pos) (zF te g):=by
 intro pins s σ H D I h;refine wpAny_Assign_stores (thn (he pins s σ H _ I h) fun v s1 ⟨x,H1,I1,r1,q1⟩=>?_) hs hw;rw [h1];exact thn (hg pins s1 σ H1 x v _ I1 r1 q1) fun _ s2 q=>q
theorem qiz {i:Nat} {x:Str} {e:Expr} {te:TE} {pos':Pos} (hN:X.N.Nodup) (hi:X.N[i]?=some x) (hx:Loc X.env.scope x) (he:PE X e te) (hs:swapsWith e (some (.Name x pos')) pos.line X.env=pure false:=by rfl) (hf:X.fn x=true∨X.env.scope.names.lookup x=some .local:=by first | exact .inl rfl | exact .inr rfl | assumption):
  PS X (.Assign [.Name x pos'] e pos) (zF te (qE i)):=by
 intro pins s σ H D I h;refine wpAny_Assign_Name (thn (he pins s σ H _ I h) fun v s1 ⟨y,H1,I1,r1,q1⟩=>?_) hs;exact WL I1 hN hi hx r1 (fun s2 I2=>⟨_,H1,I2,q1⟩) hf
def qil (i:Nat) (te:TE) (ti:TIp):TS:=fun D σ H=>∃ x,σ[i]?=some (some x)∧te σ H fun y H1=>ti x y H1 fun z H2=>D.nx (σ.set i (some z)) H2
theorem qd6 {i:Nat} {x:Str} {e:Expr} {te:TE} {op:Operator} {ti:TIp} {pos':Pos} (hN:X.N.Nodup) (hi:X.N[i]?=some x) (hx:Loc X.env.scope x) (he:PE X e te) (ho:PIp X op ti) (hf:X.fn x=true∨X.env.scope.names.lookup x=some .local:=by first | exact .inl rfl | exact .inr rfl | assumption):
  PS X (.AugAssign (.Name x pos') op e pos) (qil i te ti):=by
 intro pins s σ H D I h;obtain ⟨v,e1,h⟩:=h;obtain ⟨m,hn,hl⟩:=I.loc;have vis:Vis X.env.scope x:=by rcases hx with k | k;exact .inl k;exact .inr (.inl k)
 obtain ⟨u,r,l⟩:=hl i x v hi e1 vis;refine wpAny_AugAssign_Name ?_;have go:wpAny (model X.prog X.w) X.A (eval e X.env) (fun w s₂=>wpAny (model X.prog X.w) X.A (inplaceOp op u w) (fun r s₃=>wpAny (model X.prog X.w) X.A (storeName X.env x r) (fun _=>SP X pins D .next) X.xe s₃) X.xe s₂) X.xe s:=by
  refine thn (he pins s σ H _ I h) fun w s1 ⟨y,H1,I1,r1,q1⟩=>?_;refine thn (ho pins s1 σ H1 v y u w _ I1 r r1 q1) fun z s2 ⟨zv,H2,I2,r2,q2⟩=>?_;exact WL I2 hN hi hx r2 (fun s3 I3=>⟨_,H2,I3,q2⟩) hf
 rcases l with ⟨hk,hm⟩ | ⟨hk,c,hc,hcell⟩
 ·exact wpAny_loadName_local I.ok.kind hk hn hm go
 ·rcases hk with hk | hk
  ·exact wpAny_loadName_cell I.ok.kind hk hc hcell go
  ·rcases hx with k | k
   ·have:X.env.scope.names.lookup x=some .free:=hk;rw [k] at this;cases this
   ·have:X.env.scope.names.lookup x=some .free:=hk;rw [k] at this;cases this
def ipI (f:Int→Int→Int):TIp:=fun x y H Q=>∃ i j,x= .int i∧y= .int j∧Q (.int (f i j)) H
theorem qew:PIp X .Add (ipI fun i j=>i+j):=by
 intro pins s σ H x y v u Q I r1 r2 h;obtain ⟨i,j,e1,e2,q⟩:=h;subst e1;subst e2;obtain ⟨t,rfl⟩:=r1;obtain ⟨t',rfl⟩:=r2;exact iadd_int ⟨.int _,H,I.tok _,⟨_,rfl⟩,q⟩
end
section
variable {X:Cx} {pos:Pos}
def Z6 (c:TT) (tb:TS):TS:=fun D σ H=>∃ W:Nat→St→Hp→Prop,(∃ m,W m σ H)∧∀ m σ H,W m σ H→
 c σ H fun b H1=>if b=true then ∃ N:St→Hp→Prop,(∀ σ' H',N σ' H'→∃ m',m'<m∧W m' σ' H')∧tb {D with nx:=N,ct:=N,bk:=D.nx} σ H1 else D.nx σ H1
theorem Zp {c:Expr} {body:List Stmt} {tc:TT} {tb:TS} (hp:PassesOwn (model X.prog X.w) X.A X.env X.xe) (hc:PT X c tc) (hb:PSs X body tb):PS X (.While c body [] pos) (Z6 tc tb):=by
 intro pins s σ H D I h;obtain ⟨W,⟨m0,w0⟩,turn⟩:=h;refine wpAny_While (codeAny_whileLoop (fun n s'=>∃ σ' H',Inv X pins σ' H' s'∧W n σ' H') ?_ m0 ⟨σ,H,I,w0⟩);rintro n s1 ⟨σ1,H1,I1,w1⟩;refine Do hp (thn (hc pins s1 σ1 H1 _ I1 (turn n σ1 H1 w1)) fun b s2 ⟨H2,I2,q2⟩=>?_);cases b with
 | true=>
  obtain ⟨N,hN,q2⟩:=q2;rw [if_pos rfl];refine Do hp (thn (hb pins s2 σ1 H2 _ I2 q2) fun f s3 q3=>?_);cases f with
  | next=>
   obtain ⟨σ3,H3,I3,n3⟩:=q3;obtain ⟨m',hm,w3⟩:=hN σ3 H3 n3;exact ⟨m',hm,σ3,H3,I3,w3⟩
  | cont=>
   obtain ⟨σ3,H3,I3,n3⟩:=q3;obtain ⟨m',hm,w3⟩:=hN σ3 H3 n3;exact ⟨m',hm,σ3,H3,I3,w3⟩
  | brk=>exact q3
  | ret v=>exact q3
 | false=>
  rw [if_neg Ai];exact wpAny_execs_nil ⟨σ1,H2,I2,q2⟩
end
structure It where
 go:Nat→Hp→Prop
 yld:Nat→Hp→V→Hp→Prop
 stop:Nat→Hp→Prop
def vn (X:Cx) (pins:List (Ac×Obj)) (H:Hp) (b:Ac):Prop:=
 H b=none∧b≠X.env.locals∧b∉X.fs∧(b∈X.ex∨X.s₀.heap.objs.size≤b)∧(∀ x c,X.env.cells.lookup x=some c→c≠b)∧∀ p∈X.pn++pins,p.1≠b
theorem Inv.fpOk {X:Cx} {pins:List (Ac×Obj)} {σ:St} {H H':Hp} {s:Ae} {b:Ac} (I:Inv X pins σ H s) (hb:s.heap.objs.size≤b) (hn:H' b=none):vn X pins H' b:=by
 refine ⟨hn,Et (Bj I.lt hb),I.nofs hb,.inr (Aw I.sz hb),fun x c e z=>?_,fun p hp z=>?_⟩
 ·obtain ⟨v,q⟩:=I.cell x c e;exact absurd (Bj q.lt (by rw [z];exact hb)) (Cq _)
 ·exact absurd (Bj (A7 (I.pin p hp).1) (by rw [z];exact hb)) (Cq _)
structure Turn (P:Program) (w:World) (K:Frag) (tg:Expr) (J:It) (fp:List Ac) (it:Ac) (tn:Nat→Heap→Prop):Prop where
 mem:it∈fp
 obj:∀ i h,tn i h→∀ b∈fp,∃ o,h.get? b=some o∧∀ v,o.data≠ .cell v
 keep:∀ i h h',tn i h→(∀ b∈fp,∀ o,h.get? b=some o→h'.get? b=some o)→tn i h'
 item:∀ (X:Cx),X.prog=P→X.w=w→X.K=K→X.calm=true→∀ (i:Nat) (pins:List (Ac×Obj)) (s:Ae) (σ:St) (H:Hp) (E:Ab→Ae→Prop),Inv X pins σ H s→(∀ b∈fp,vn X pins H b)→tn i s.heap→J.go i H→
  wpAny (model P w) X.A (pyNext (.ref it)) (fun r s1=>∃ u,r=some u∧
   wpAny (model P w) X.A (letOwnedTupleGo tg (.ref it) u) (fun _ s2=>∃ x H',Inv X pins σ H' s2∧qL x u∧J.yld i H x H'∧tn (i+1) s2.heap∧∀ b∈fp,H' b=none) E s1) E s
 done:∀ (X:Cx),X.prog=P→X.w=w→X.K=K→X.calm=true→∀ (i:Nat) (pins:List (Ac×Obj)) (s:Ae) (σ:St) (H:Hp) (E:Ab→Ae→Prop),Inv X pins σ H s→(∀ b∈fp,vn X pins H b)→tn i s.heap→J.stop i H→
  wpAny (model P w) X.A (pyNext (.ref it)) (fun r s1=>r=none∧Inv X pins σ H s1) E s
 self:∀ (A:Around) (i:Nat) (s:Ae) (Q:Ab→Ae→Prop) (E:Ab→Ae→Prop),tn i s.heap→Q (.ref it) s→wpAny (model P w) A (pyIter (.ref it)) Q E s
abbrev TI:=St→Hp→(It→Hp→Prop)→Prop
def PIE (X:Cx) (pins:List (Ac×Obj)) (σ:St) (tg:Expr) (R:It→Hp→Prop) (itv:Ab) (s2:Ae):Prop:=
 ∃ (it:Ac) (fp:List Ac) (tn:Nat→Heap→Prop) (J:It) (H':Hp),itv= .ref it∧Inv X pins σ H' s2∧Turn X.prog X.w X.K tg J fp it tn∧tn 0 s2.heap∧(∀ b∈fp,vn X pins H' b)∧R J H'
def PI (X:Cx) (tg iter:Expr) (wi:TI):Prop:=
 ∀ (pins:List (Ac×Obj)) (s:Ae) (σ:St) (H:Hp) (R:It→Hp→Prop),Inv X pins σ H s→wi σ H R→
  wpAny (model X.prog X.w) X.A (eval iter X.env) (fun v s1=>wpAny (model X.prog X.w) X.A (pyIter v) (PIE X pins σ tg R) X.xe s1) X.xe s
theorem qav {M:Model} {A:Around} {E:Ab→Ae→Prop} {s:Ae} {tg:Expr} {it:Ac} {u:Ab} {o:Obj} {n:String} {vs:Array Ab} {Q:Unit→Ae→Prop} (ho:s.heap.get? it=some o) (hc:o.cls= .type n) (hd:o.data= .fields vs)
  (hn:["enumerate","zip","dict_itemiterator","dict_reverseitemiterator","odict_iterator","itertools.zip_longest","itertools.pairwise"].contains n=false) (hQ:Q () s):wpAny M A (letOwnedTupleGo tg (.ref it) u) Q E s:=by
 unfold letOwnedTupleGo;cases tg <;> first
  | exact A8 hQ
  | (cases u <;> first
    | exact A8 hQ
    | (refine Am (wpAny_load ho ?_)
       rw [hc,hd];show wpAny M A (if (["enumerate","zip","dict_itemiterator","dict_reverseitemiterator","odict_iterator","itertools.zip_longest","itertools.pairwise"].contains n&&vs[0]?==some (rawInt _))=true then _ else _) Q E s
       rw [if_neg (by intro h;rw [hn,B3] at h;cases h)]
       exact A8 hQ))
def Itl (K:Frag) (a:Ac):It:=
 ⟨fun i H=>∃ xs x,SqL K H a xs∧xs[i]?=some x,fun i H x H'=>H'=H∧∀ xs,SqL K H a xs→xs[i]?=some x,fun i H=>∃ xs,SqL K H a xs∧xs.length≤i⟩
def Itt (K:Frag) (a:Ac):It:=
 ⟨fun i H=>∃ xs x,SqT K H a xs∧xs[i]?=some x,fun i H x H'=>H'=H∧∀ xs,SqT K H a xs→xs[i]?=some x,fun i H=>∃ xs,SqT K H a xs∧xs.length≤i⟩
def Itr (lo:Int) (n:Nat):It:=⟨fun i _=>i<n,fun i H x H'=>H'=H∧x= .int (lo+i),fun i _=>n≤i⟩
theorem qbf {P:Program} {w:World} {K:Frag} {tg:Expr} (a it:Ac):Turn P w K tg (Itl K a) [it] it (fun i h=>h.IsListIter it a i) where
 mem:=by simp
 obj:=fun i h st b hb=>by
  have e:b=it:=by simpa using hb
  subst e;obtain ⟨o,e,c,d⟩:=st;exact ⟨o,e,fun v z=>by rw [d] at z;cases z⟩
 keep:=fun i h h' st k=>st.at fun o e=>k it (by simp) o e
 item:=by
  intro X hP hw hK hc i pins s σ H E I hf st hg;subst hP hw hK;obtain ⟨xs,x,hq,hx⟩:=hg;obtain ⟨its,rv,p,hz⟩:=I.list hq;obtain ⟨u,hu,ru⟩:=rv.get hx;obtain ⟨f0,f1,f2,f3,f4,f5⟩:=hf it (by simp)
  refine wpAny_pyNext_list_item st p.isList (x:=u) (by simpa using hu) fun h' st' sb=>?_
  have I1:Inv X pins σ H {s with heap:=h'}:=I.turned (t':=s.toks) (fun b o hb e=>(sb.2 b hb).trans e) f0 f1 f3 f4 f5
  obtain ⟨o,e,c,d⟩:=id st';exact ⟨u,rfl,qav (s:={s with heap:=h'}) e c d O0 ⟨x,H,I1,ru,⟨rfl,fun ys hy=>by rw [I.list_inj hy hq];exact hx⟩,st',fun b hb=>(hf b hb).1⟩⟩
 done:=by
  intro X hP hw hK hc i pins s σ H E I hf st hg;subst hP hw hK;obtain ⟨xs,hq,hx⟩:=hg;obtain ⟨its,rv,p,hz⟩:=I.list hq;obtain ⟨f0,f1,f2,f3,f4,f5⟩:=hf it (by simp)
  have hl:=rv.length;exact wpAny_pyNext_list_end (I.ok.hd hc) st p.isList (by simp;omega) fun h' eb=>⟨rfl,I.turned (t':=s.toks) (fun b o hb e=>eb b o hb e) f0 f1 f3 f4 f5⟩
 self:=fun _ _ _ _ _ st h=>wpAny_pyIter_listiter st h
theorem Z4 {P:Program} {w:World} {K:Frag} {tg:Expr} (a it:Ac):Turn P w K tg (Itt K a) [it] it (fun i h=>h.IsTupleIter it a i) where
 mem:=by simp
 obj:=fun i h st b hb=>by
  have e:b=it:=by simpa using hb
  subst e;obtain ⟨o,e,c,d⟩:=st;exact ⟨o,e,fun v z=>by rw [d] at z;cases z⟩
 keep:=fun i h h' st k=>st.at fun o e=>k it (by simp) o e
 item:=by
  intro X hP hw hK hc i pins s σ H E I hf st hg;subst hP hw hK;obtain ⟨xs,x,hq,hx⟩:=hg;obtain ⟨its,rv,p,hz⟩:=I.tuple hq;obtain ⟨u,hu,ru⟩:=rv.get hx;obtain ⟨f0,f1,f2,f3,f4,f5⟩:=hf it (by simp)
  refine wpAny_pyNext_tuple_item st (show s.heap.IsTuple a its.toArray from p) (x:=u) (by simpa using hu) fun h' st' sb=>?_
  have I1:Inv X pins σ H {s with heap:=h'}:=I.turned (t':=s.toks) (fun b o hb e=>(sb.2 b hb).trans e) f0 f1 f3 f4 f5
  obtain ⟨o,e,c,d⟩:=id st';exact ⟨u,rfl,qav (s:={s with heap:=h'}) e c d O0 ⟨x,H,I1,ru,⟨rfl,fun ys hy=>by rw [I.tuple_inj hy hq];exact hx⟩,st',fun b hb=>(hf b hb).1⟩⟩
 done:=by
  intro X hP hw hK hc i pins s σ H E I hf st hg;subst hP hw hK;obtain ⟨xs,hq,hx⟩:=hg;obtain ⟨its,rv,p,hz⟩:=I.tuple hq;obtain ⟨f0,f1,f2,f3,f4,f5⟩:=hf it (by simp)
  have hl:=rv.length;exact wpAny_pyNext_tuple_end (I.ok.hd hc) st (show s.heap.IsTuple a its.toArray from p) (by simp;omega) fun h' eb=>⟨rfl,I.turned (t':=s.toks) (fun b o hb e=>eb b o hb e) f0 f1 f3 f4 f5⟩
 self:=fun _ _ _ _ _ st h=>wpAny_pyIter_tupleiter st h
theorem Z5 {P:Program} {w:World} {K:Frag} {tg:Expr} (it:Ac) (lo:Int) (n:Nat):Turn P w K tg (Itr lo n) [it] it (fun i h=>IsRangeIter h it (lo+(i:Nat)*1) ((n:Int) - (i:Nat)) 1) where
 mem:=by simp
 obj:=fun i h st b hb=>by
  have e:b=it:=by simpa using hb
  subst e;exact ⟨_,st,fun v z=>by
   have z':Data.fields _=Data.cell v:=z;cases z'⟩
 keep:=fun i h h' st k=>k it (by simp) _ st
 item:=by
  intro X hP hw hK hc i pins s σ H E I hf st hg;subst hP hw hK;obtain ⟨f0,f1,f2,f3,f4,f5⟩:=hf it (by simp)
  have W:=Walks.range (prog:=X.prog) (w:=X.w) (I.ok.hd hc) it lo 1 n;refine W.item i s _ _ hg st fun v h' tk hv st' kk=>?_;obtain ⟨t,rfl⟩:=hv;have I1:Inv X pins σ H {s with heap:=h',toks:=tk}:=I.turned (fun b o hb e=>kk b o (by simpa using hb) e) f0 f1 f3 f4 f5
  refine ⟨_,rfl,qav (s:={s with heap:=h',toks:=tk}) (n:="range_iterator") st' rfl rfl O0 ⟨.int (lo+i),H,I1,⟨t,?_⟩,⟨rfl,rfl⟩,st',fun b hb=>(hf b hb).1⟩⟩
  rw [Int.mul_one]
 done:=by
  intro X hP hw hK hc i pins s σ H E I hf st hg;subst hP hw hK;obtain ⟨f0,f1,f2,f3,f4,f5⟩:=hf it (by simp)
  exact wpAny_pyNext_range_end (I.ok.hd hc) st (by have:n≤i:=hg;omega) fun h' eb=>⟨rfl,I.turned (t':=s.toks) (fun b o hb e=>eb b o hb e) f0 f1 f3 f4 f5⟩
 self:=fun _ _ _ _ _ st h=>wpAny_pyIter_rangeiter st h
section
variable {X:Cx} {tg:Expr}
theorem qdx {pins:List (Ac×Obj)} {σ:St} {H:Hp} {s:Ae} {R:It→Hp→Prop} {E:Ab→Ae→Prop} {lo hi:Int} {t u v:Tok} {tk:Nat} (I:Inv X pins σ H s) (h1: -(2 ^ 62)≤lo) (h2:lo<2 ^ 62) (h3: -(2 ^ 62)≤hi) (h4:hi<2 ^ 62)
  (q:R (Itr lo (hi - lo).toNat) H):wpAny (model X.prog X.w) X.A (pyIter (.ref s.heap.objs.size)) (PIE X pins σ tg R) E {s with heap:=s.heap.push {cls:= .type "range",data:= .fields #[.int lo t,.int hi u,.int 1 v]},toks:=tk}:=by
 refine wpAny_pyIter_range (IsRange.new ..) (small_one h1 h2 h3 h4) ?_;have I1:Inv X pins σ H {s with heap:=s.heap.push {cls:= .type "range",data:= .fields #[.int lo t,.int hi u,.int 1 v]},toks:=tk}:=I.kept fun b o e=>Av _ e
 refine ⟨(s.heap.push {cls:= .type "range",data:= .fields #[.int lo t,.int hi u,.int 1 v]}).objs.size,[(s.heap.push {cls:= .type "range",data:= .fields #[.int lo t,.int hi u,.int 1 v]}).objs.size],_,_,H,rfl,
  I1.kept (t':=tk) fun b o e=>Av _ e,Z5 _ lo (hi - lo).toNat,?_,fun b hb=>?_,q⟩
 ·have e1:lo+((0:Nat):Int)*1=lo:=by simp
  have e2:(((hi - lo).toNat:Nat):Int) - ((0:Nat):Int)=Builtin.Range.rangeSize lo hi 1:=by rw [rangeSize_one];split <;> omega
  show IsRangeIter _ _ (lo+((0:Nat):Int)*1) ((((hi - lo).toNat:Nat):Int) - ((0:Nat):Int)) 1;rw [e1,e2];exact Bh _ rfl
 ·have e:b=(s.heap.push {cls:= .type "range",data:= .fields #[.int lo t,.int hi u,.int 1 v]}).objs.size:=by simpa using hb
  subst e;exact I1.fpOk (Ax _) (I1.hok.fresh (Ax _))
def qau (ta:TA):TI:=fun σ H R=>ta σ H fun vs H1=>∃ j:Int,vs=[.int j]∧ -(2 ^ 62)≤j∧j<2 ^ 62∧R (Itr 0 j.toNat) H1
theorem ja {a:Expr} {ta:TA} {p pos:Pos} (hg:Gl X "range") (hm:X.mg "range"=none) (ha:PA X [a] ta) (hs:starEach [a] X.env=[(false,eval a X.env)]:=by rfl):PI X tg (.Call (.Name "range" p) [a] [] pos) (qau ta):=by
 intro pins s σ H R I h;refine Call_ (yd I hg hm boot_range (PyProof.Rows.callWith_type1 (thn (ha pos pins s σ H _ I h) fun us s1 ⟨vs,H1,I1,r1,q1⟩=>?_) hs rfl));obtain ⟨j,e,q1,q2,q⟩:=q1;subst e;cases r1 with
 | cons r rr=>
  cases rr;obtain ⟨t,rfl⟩:=r;exact call_range_1 (qdx I1 ⋯ ⋯ q1 q2 (by simpa using q))
def Qa (wi:TI) (g:TG) (tb:TS):TS:=fun D σ H=>wi σ H fun J H1=>∃ W:Nat→Nat→St→Hp→Prop,(∃ m,W 0 m σ H1)∧∀ i m σ H,W i m σ H→
 (J.stop i H∧D.nx σ H)∨(J.go i H∧∃ N:St→Hp→Prop,(∀ σ' H',N σ' H'→∃ m',m'<m∧W (i+1) m' σ' H')∧∀ x H',J.yld i H x H'→g x σ H' fun σ2 H2=>tb {D with nx:=N,ct:=N,bk:=D.nx} σ2 H2)
def JP (fp:List Ac) (h:Heap):List (Ac×Obj):=fp.filterMap fun b=>(h.get? b).map fun o=>(b,o)
theorem jX {fp:List Ac} {h:Heap} {b:Ac} {o:Obj} (hb:b∈fp) (e:h.get? b=some o):(b,o)∈JP fp h:=List.mem_filterMap.mpr ⟨b,hb,by rw [e];rfl⟩
theorem qb0 {fp:List Ac} {h:Heap} {p:Ac×Obj} (hp:p∈JP fp h):p.1∈fp∧h.get? p.1=some p.2:=by
 obtain ⟨b,hb,e⟩:=List.mem_filterMap.mp hp;cases q:h.get? b with
 | none=>rw [q] at e;cases e
 | some o=>
  rw [q] at e;have e':(b,o)=p:=Bb e;subst e';exact ⟨hb,q⟩
theorem Inv.pinned {pins:List (Ac×Obj)} {σ:St} {H:Hp} {s:Ae} {fp:List Ac} (I:Inv X pins σ H s) (hf:∀ b∈fp,vn X pins H b) (ho:∀ b∈fp,∃ o,s.heap.get? b=some o∧∀ v,o.data≠ .cell v):Inv X (pins++JP fp s.heap) σ H s:=
 I.pins_of fun p hp=>(Ci.mp hp).elim (fun z=>I.pin p (Bc _ z)) fun z=>by
  obtain ⟨hb,e⟩:=qb0 z;obtain ⟨f0,f1,f2,_⟩:=hf p.1 hb;obtain ⟨o,e',d⟩:=ho p.1 hb;rw [e] at e';cases e';exact ⟨e,f0,f1,f2,d⟩
theorem Inv.unpinned {pins pl:List (Ac×Obj)} {σ:St} {H:Hp} {s:Ae} (I:Inv X (pins++pl) σ H s):Inv X pins σ H s:=I.pins_of fun p hp=>I.pin p (Bc _ (B1 _ hp))
theorem JO {iter:Expr} {body:List Stmt} {wi:TI} {g:TG} {tb:TS} {pos:Pos} (hp:PassesOwn (model X.prog X.w) X.A X.env X.xe) (hc:X.calm=true) (hi:PI X tg iter wi) (hg:PG X tg g) (hb:PSs X body tb)
  (hs:∀ x,foldedSetIterable iter X.env x=pure x:=by intro _;rfl):PS X (.For tg iter body [] pos) (Qa wi g tb):=by
 intro pins s σ H D I h;refine wpAny_For (thn (hi pins s σ H _ I h) fun v s1 h1=>thn h1 fun itv s2 h2=>?_) hs;obtain ⟨it,fp,tn,J,H2,e,I2,T,st2,f2,W,⟨m0,w0⟩,turn⟩:=h2;subst e;have stat:∀ {H':Hp},(∀ b∈fp,H' b=none)→∀ b∈fp,vn X pins H' b:=fun hn b hb=>⟨hn b hb,(f2 b hb).2⟩;refine codeAny_forLoop_any (fun n s'=>∃ i σ' H',Inv X pins σ' H' s'∧tn i s'.heap∧(∀ b∈fp,H' b=none)∧W i n σ' H') ?_ m0 ⟨0,σ,H2,I2,st2,fun b hb=>(f2 b hb).1,w0⟩;rintro n s3 ⟨i,σ3,H3,I3,st3,fr3,w3⟩;rcases turn i n σ3 H3 w3 with ⟨stop,qn⟩ | ⟨go,N,hN,step⟩
 ·refine Do hp (thn (T.done X rfl rfl rfl hc i pins s3 σ3 H3 X.xe I3 (stat fr3) st3 stop) fun r s4 ⟨hr,I4⟩=>?_);subst hr;exact wpAny_execs_nil ⟨σ3,H3,I4,qn⟩
 ·refine Do hp (thn (T.item X rfl rfl rfl hc i pins s3 σ3 H3 X.xe I3 (stat fr3) st3 go) fun r s4 ⟨u,hr,h4⟩=>?_);subst hr;refine Do hp (thn h4 fun _ s5 ⟨x,H5,I5,r5,y5,st5,fr5⟩=>?_);have I5':=I5.pinned (stat fr5) (T.obj _ _ st5);refine Do hp (thn (hg _ s5 σ3 H5 x u _ I5' r5 (step x H5 y5)) fun _ s6 ⟨σ6,H6,I6,q6⟩=>?_);refine Do hp (thn (hb _ s6 σ6 H6 _ I6 q6) fun f s7 q7=>?_);have again:∀ {σ7:St} {H7:Hp},Inv X (pins++JP fp s5.heap) σ7 H7 s7→N σ7 H7→∃ m,m<n∧∃ i σ' H',Inv X pins σ' H' s7∧tn i s7.heap∧(∀ b∈fp,H' b=none)∧W i m σ' H':=fun {σ7 H7} I7 n7=>by
   obtain ⟨m',hm,w7⟩:=hN σ7 H7 n7;refine ⟨m',hm,i+1,σ7,H7,I7.unpinned,T.keep _ _ _ st5 fun b hb o e=>(I7.pin (b,o) (Bc _ (Bc _ (jX hb e)))).1,fun b hb=>?_,w7⟩;obtain ⟨o,e,d⟩:=T.obj _ _ st5 b hb;exact (I7.pin (b,o) (Bc _ (Bc _ (jX hb e)))).2.1
  cases f with
  | next=>obtain ⟨σ7,H7,I7,n7⟩:=q7;exact again I7 n7
  | cont=>obtain ⟨σ7,H7,I7,n7⟩:=q7;exact again I7 n7
  | brk=>obtain ⟨σ7,H7,I7,q7⟩:=q7;exact ⟨σ7,H7,I7.unpinned,q7⟩
  | ret v=>obtain ⟨x7,σ7,H7,I7,r7,q7⟩:=q7;exact ⟨x7,σ7,H7,I7.unpinned,r7,q7⟩
end
theorem wq {lo:Int} {n:Nat} {g:TG} {tb:TS} {D:Ends} {σ:St} {H:Hp} (Pv:Nat→St→Hp→Prop) (h0:Pv 0 σ H)
  (hs:∀ i σ H,i<n→Pv i σ H→g (.int (lo+i)) σ H fun σ2 H2=>tb {D with nx:=Pv (i+1),ct:=Pv (i+1),bk:=D.nx} σ2 H2) (hd:∀ σ H,Pv n σ H→D.nx σ H):
  ∃ W:Nat→Nat→St→Hp→Prop,(∃ m,W 0 m σ H)∧∀ i m σ H,W i m σ H→
   ((Itr lo n).stop i H∧D.nx σ H)∨((Itr lo n).go i H∧∃ N:St→Hp→Prop,(∀ σ' H',N σ' H'→∃ m',m'<m∧W (i+1) m' σ' H')∧∀ x H',(Itr lo n).yld i H x H'→g x σ H' fun σ2 H2=>tb {D with nx:=N,ct:=N,bk:=D.nx} σ2 H2):=by
 refine ⟨fun i m σ H=>m=n - i∧i≤n∧Pv i σ H,⟨n,by simp,Bm _,h0⟩,?_⟩
 rintro i m σ H ⟨rfl,hi,p⟩
 by_cases hlt:i<n
 ·refine .inr ⟨hlt,Pv (i+1),fun σ' H' p'=>⟨n - (i+1),⋯,rfl,hlt,p'⟩,fun x H' y=>?_⟩;obtain ⟨e,y⟩:=y;subst e y;exact hs i σ _ hlt p
 ·have e:i=n:=⋯;subst e;exact .inl ⟨Ax _,hd σ H p⟩
abbrev R2:=V→V→Hp→VK→Prop
def OpR (X:Cx) (f:Ab→Ab→Sem Ab) (r:R2):Prop:=
 ∀ (pins:List (Ac×Obj)) (s:Ae) (σ:St) (H:Hp) (x y:V) (v u:Ab) (Q:VK),Inv X pins σ H s→qL x v→qL y u→r x y H Q→
  wpAny (model X.prog X.w) X.A (f v u) (EP X pins σ Q) X.xe s
def UnR (X:Cx) (f:Ab→Sem Ab) (r:V→Hp→VK→Prop):Prop:=
 ∀ (pins:List (Ac×Obj)) (s:Ae) (σ:St) (H:Hp) (x:V) (v:Ab) (Q:VK),Inv X pins σ H s→qL x v→r x H Q→
  wpAny (model X.prog X.w) X.A (f v) (EP X pins σ Q) X.xe s
def Je (X:Cx) (f:Ab) (r:List V→Hp→VK→Prop):Prop:=
 ∀ (pins:List (Ac×Obj)) (s:Ae) (σ:St) (H:Hp) (xs:List V) (us:List Ab) (Q:VK),Inv X pins σ H s→qH xs us→r xs H Q→
  wpAny (model X.prog X.w) X.A (call f us) (EP X pins σ Q) X.xe s
def TruR (X:Cx) (r:V→Hp→(Bool→Hp→Prop)→Prop):Prop:=
 ∀ (pins:List (Ac×Obj)) (s:Ae) (σ:St) (H:Hp) (x:V) (v:Ab) (Q:Bool→Hp→Prop),Inv X pins σ H s→qL x v→r x H Q→
  wpAny (model X.prog X.w) X.A (truthy v) (TP X pins σ Q) X.xe s
def tOp (r:R2) (ta tb:TE):TE:=fun σ H Q=>ta σ H fun x H1=>tb σ H1 fun y H2=>r x y H2 Q
def tUn (r:V→Hp→VK→Prop) (ta:TE):TE:=fun σ H Q=>ta σ H fun x H1=>r x H1 Q
def rI (C:Int→Int→Prop) (g:Int→Int→V):R2:=fun x y H Q=>∃ i j,x= .int i∧y= .int j∧C i j∧Q (g i j) H
def rI0 (g:Int→Int→V):R2:=fun x y H Q=>∃ i j,x= .int i∧y= .int j∧Q (g i j) H
def rU (g:Int→V):V→Hp→VK→Prop:=fun x H Q=>∃ i,x= .int i∧Q (g i) H
section
variable {X:Cx} {a b c:Expr} {ta tb tc:TE} {pos:Pos}
theorem qj2 (ha:PE X a ta) (hb:PE X b tb) {pins:List (Ac×Obj)} {s:Ae} {σ:St} {H:Hp} {R:V→V→Hp→Prop} (I:Inv X pins σ H s)
  (h:ta σ H fun x H1=>tb σ H1 fun y H2=>R x y H2) {Q:Ab→Ae→Prop} {f:Ab→Ab→Sem Ab}
  (hf:∀ v u s2 x y H2,Inv X pins σ H2 s2→qL x v→qL y u→R x y H2→wpAny (model X.prog X.w) X.A (f v u) Q X.xe s2):
  wpAny (model X.prog X.w) X.A (eval a X.env) (fun v s₁=>wpAny (model X.prog X.w) X.A (eval b X.env) (fun u s₂=>wpAny (model X.prog X.w) X.A (f v u) Q X.xe s₂) X.xe s₁) X.xe s:=by
 refine thn (ha pins s σ H _ I h) fun v s1 ⟨x,H1,I1,r1,q1⟩=>?_;refine thn (hb pins s1 σ H1 _ I1 q1) fun u s2 ⟨y,H2,I2,r2,q2⟩=>?_;exact hf v u s2 x y H2 I2 r1 r2 q2
theorem qo {op:Operator} {r:R2} (ho:OpR X (binaryOp op) r) (ha:PE X a ta) (hb:PE X b tb):PE X (.BinOp a op b pos) (tOp r ta tb):=by
 intro pins s σ H Q I h;exact wpAny_BinOp (qj2 ha hb I h fun v u s2 x y H2 I2 rx ry q=>ho pins s2 σ H2 x y v u Q I2 rx ry q)
theorem qag {op:UnaryOp} {r:V→Hp→VK→Prop} (ho:UnR X (unaryOp op) r) (ha:PE X a ta):PE X (.UnaryOp op a pos) (tUn r ta):=by
 intro pins s σ H Q I h;exact UnaryOp_ (thn (ha pins s σ H _ I h) fun v s1 ⟨x,H1,I1,r1,q1⟩=>ho pins s1 σ H1 x v Q I1 r1 q1)
theorem opI {f:Ab→Ab→Sem Ab} {C:Int→Int→Prop} {g:Int→Int→Int}
  (rule:∀ (i j:Int) (t u:Tok) (s:Ae) (Q:Ab→Ae→Prop) (E:Ab→Ae→Prop),C i j→Q (.int (g i j) s.toks) {s with toks:=s.toks+1}→wpAny (model X.prog X.w) X.A (f (.int i t) (.int j u)) Q E s):
  OpR X f (rI C fun i j=> .int (g i j)):=by
 intro pins s σ H x y v u Q I rx ry h;obtain ⟨i,j,rfl,rfl,hc,q⟩:=h;obtain ⟨t,rfl⟩:=rx;obtain ⟨t',rfl⟩:=ry;exact rule i j t t' s _ _ hc ⟨.int (g i j),H,I.tok _,⟨_,rfl⟩,q⟩
theorem qk1 {f:Ab→Ab→Sem Ab} {g:Int→Int→Int}
  (rule:∀ (i j:Int) (t u:Tok) (s:Ae) (Q:Ab→Ae→Prop) (E:Ab→Ae→Prop),Q (.int (g i j) s.toks) {s with toks:=s.toks+1}→wpAny (model X.prog X.w) X.A (f (.int i t) (.int j u)) Q E s):
  OpR X f (rI0 fun i j=> .int (g i j)):=by
 intro pins s σ H x y v u Q I rx ry h;obtain ⟨i,j,rfl,rfl,q⟩:=h;obtain ⟨t,rfl⟩:=rx;obtain ⟨t',rfl⟩:=ry;exact rule i j t t' s _ _ ⟨.int (g i j),H,I.tok _,⟨_,rfl⟩,q⟩
theorem qg3 {f:Ab→Ab→Sem Ab} {g:Int→Int→Bool}
  (rule:∀ (i j:Int) (t u:Tok) (s:Ae) (Q:Ab→Ae→Prop) (E:Ab→Ae→Prop),Q (.bool (g i j)) s→wpAny (model X.prog X.w) X.A (f (.int i t) (.int j u)) Q E s):
  OpR X f (rI0 fun i j=> .bl (g i j)):=by
 intro pins s σ H x y v u Q I rx ry h;obtain ⟨i,j,rfl,rfl,q⟩:=h;obtain ⟨t,rfl⟩:=rx;obtain ⟨t',rfl⟩:=ry;exact rule i j t t' s _ _ ⟨.bl (g i j),H,I,rfl,q⟩
def qhy (i j:Int):Prop:=0<j∧j<1073741824
def qlt (i j:Int):Prop:=0≤j∧j≤1000000∧i.natAbs<2 ^ 64
def X5 (i j:Int):Prop:=(-(2 ^ 64)<i∧i<2 ^ 64)∨(-(2 ^ 64)<j∧j<2 ^ 64)
theorem X5.ok {i j:Int} (h:X5 i j):IntMulOk i j:=by
 rcases h with ⟨h1,h2⟩ | ⟨h1,h2⟩
 ·exact .of_left (intBits_le_64 h1 h2)
 ·exact .of_right (intBits_le_64 h1 h2)
theorem qjb:OpR X (binaryOp .Add) (rI0 fun i j=> .int (i+j)):=qk1 fun _ _ _ _ _ _ _ q=>add_int q
theorem zd:OpR X (binaryOp .Sub) (rI0 fun i j=> .int (i - j)):=qk1 fun _ _ _ _ _ _ _ q=>sub_int q
theorem Ji:OpR X (binaryOp .Mult) (rI X5 fun i j=> .int (i*j)):=opI fun _ _ _ _ _ _ _ hc q=>mul_int q hc.ok
theorem zQ:OpR X (binaryOp .FloorDiv) (rI qhy fun i j=> .int (i / j)):=opI fun i j _ _ _ _ _ hc q=>by
 have h1:(0:Int)<j:=hc.1;have h2:j<1073741824:=hc.2;exact floordiv_int ⋯ (by rw [Int.fdiv_eq_ediv_of_nonneg i ⋯];exact q) (.inl (PyProof.noPylong_small ⋯))
theorem qP:OpR X (binaryOp .Mod) (rI (fun _ j=>0<j) fun i j=> .int (i % j)):=opI fun i j _ _ _ _ _ hc q=>by
 have h1:(0:Int)<j:=hc;exact mod_int' ⋯ (by rw [Int.fmod_eq_emod_of_nonneg i ⋯];exact q)
theorem Xo:OpR X (binaryOp .Pow) (rI qlt fun i j=> .int (i ^ j.toNat)):=opI fun _ _ _ _ _ _ _ hc q=>pow_int_small hc.1 hc.2.1 hc.2.2 q
theorem unI {f:Ab→Sem Ab} {g:Int→Int}
  (rule:∀ (i:Int) (t:Tok) (s:Ae) (Q:Ab→Ae→Prop) (E:Ab→Ae→Prop),Q (.int (g i) s.toks) {s with toks:=s.toks+1}→wpAny (model X.prog X.w) X.A (f (.int i t)) Q E s):
  UnR X f (rU fun i=> .int (g i)):=by
 intro pins s σ H x v Q I rx h;obtain ⟨i,rfl,q⟩:=h;obtain ⟨t,rfl⟩:=rx;exact rule i t s _ _ ⟨.int (g i),H,I.tok _,⟨_,rfl⟩,q⟩
theorem Y9:UnR X (unaryOp .USub) (rU fun i=> .int (-i)):=unI fun _ _ _ _ _ q=>neg_int q
end
def qkg:V→V→Bool
 | .non,.non=>true | .non,.int _=>true | .int _,.non=>true | .non,.bl _=>true | .bl _,.non=>true | .non,.str _=>true | .str _,.non=>true
 | .int _,.int _=>true | .bl _,.bl _=>true | .str _,.str _=>true | .byt _,.byt _=>true
 | .int _,.str _=>true | .str _,.int _=>true | .bl _,.str _=>true | .str _,.bl _=>true
 | _,_=>false
def rEq:R2:=fun x y H Q=>qkg x y=true∧Q (.bl (decide (x=y))) H
def rNe:R2:=fun x y H Q=>qkg x y=true∧Q (.bl (!decide (x=y))) H
theorem qay {i j:Int}:decide (V.int i=V.int j)=(i==j):=by
 rw [B5];simp
theorem qfk {i j:Bool}:decide (V.bl i=V.bl j)=(i==j):=by
 rw [B5];simp
theorem qax {i j:Str}:decide (V.str i=V.str j)=(i==j):=by
 rw [B5];simp
theorem qaz {i j:Array UInt8}:decide (V.byt i=V.byt j)=(i.toList==j.toList):=by
 rw [B5];cases i;cases j;simp
section
variable {X:Cx} {a b c:Expr} {ta tb tc:TE} {pos:Pos}
theorem qR {pins:List (Ac×Obj)} {σ:St} {H:Hp} {s:Ae} {Q:VK} {k k':Bool} (I:Inv X pins σ H s) (q:Q (.bl k) H) (e:k=k'):EP X pins σ Q (.bool k') s:=by
 subst e;exact ⟨.bl k,H,I,rfl,q⟩
theorem qT:OpR X (compareOp .Eq) rEq:=by
 intro pins s σ H x y v u Q I rx ry h;obtain ⟨hs,q⟩:=h;cases x with
 | non=>
  cases rx;cases y with
  | non=>cases ry;exact PySem.EqNone.eq_none_none (qR I q (by simp))
  | bl j=>cases ry;exact PySem.EqNone.eq_none_bool (qR I q (by simp))
  | int j=>obtain ⟨t',rfl⟩:=ry;exact PySem.EqNone.eq_none_int (qR I q (by simp))
  | str j=>obtain ⟨t',rfl⟩:=ry;exact PySem.EqNone.eq_none_str (qR I q (by simp))
  | _=>exact absurd (show false=true from hs) Ai
 | bl i=>
  cases rx;cases y with
  | non=>cases ry;exact PySem.EqNone.eq_bool_none (qR I q (by simp))
  | bl j=>cases ry;exact eq_bool (qR I q qfk)
  | str j=>obtain ⟨t',rfl⟩:=ry;exact PySem.EqMixed.eq_bool_str (qR I q (by simp))
  | _=>exact absurd (show false=true from hs) Ai
 | int i=>
  obtain ⟨t,rfl⟩:=rx;cases y with
  | non=>cases ry;exact PySem.EqNone.eq_int_none (qR I q (by simp))
  | int j=>obtain ⟨t',rfl⟩:=ry;exact eq_int (qR I q qay)
  | str j=>obtain ⟨t',rfl⟩:=ry;exact PySem.EqMixed.eq_int_str (qR I q (by simp))
  | _=>exact absurd (show false=true from hs) Ai
 | str i=>
  obtain ⟨t,rfl⟩:=rx;cases y with
  | non=>cases ry;exact PySem.EqNone.eq_str_none (qR I q (by simp))
  | bl j=>cases ry;exact PySem.EqMixed.eq_str_bool (qR I q (by simp))
  | int j=>obtain ⟨t',rfl⟩:=ry;exact PySem.EqMixed.eq_str_int (qR I q (by simp))
  | str j=>obtain ⟨t',rfl⟩:=ry;exact eq_str (qR I q qax)
  | _=>exact absurd (show false=true from hs) Ai
 | byt i=>
  obtain ⟨t,rfl⟩:=rx;cases y with
  | byt j=>obtain ⟨t',rfl⟩:=ry;exact PySem.W.eq_bytes (qR I q qaz)
  | _=>exact absurd (show false=true from hs) Ai
 | _=>cases y <;> exact absurd (show false=true from hs) Ai
theorem VO:OpR X (compareOp .NotEq) rNe:=by
 intro pins s σ H x y v u Q I rx ry h;obtain ⟨hs,q⟩:=h;cases x with
 | non=>
  cases rx;cases y with
  | non=>cases ry;exact PySem.EqNone.ne_none_none (qR I q (by simp))
  | bl j=>cases ry;exact PySem.EqNone.ne_none_bool (qR I q (by simp))
  | int j=>obtain ⟨t',rfl⟩:=ry;exact PySem.EqNone.ne_none_int (qR I q (by simp))
  | str j=>obtain ⟨t',rfl⟩:=ry;exact PySem.EqNone.ne_none_str (qR I q (by simp))
  | _=>exact absurd (show false=true from hs) Ai
 | bl i=>
  cases rx;cases y with
  | non=>cases ry;exact PySem.EqNone.ne_bool_none (qR I q (by simp))
  | bl j=>cases ry;exact ne_bool (qR I q (congrArg not qfk))
  | str j=>obtain ⟨t',rfl⟩:=ry;exact PySem.EqMixed.ne_bool_str (qR I q (by simp))
  | _=>exact absurd (show false=true from hs) Ai
 | int i=>
  obtain ⟨t,rfl⟩:=rx;cases y with
  | non=>cases ry;exact PySem.EqNone.ne_int_none (qR I q (by simp))
  | int j=>obtain ⟨t',rfl⟩:=ry;exact ne_int (qR I q (congrArg not qay))
  | str j=>obtain ⟨t',rfl⟩:=ry;exact PySem.EqMixed.ne_int_str (qR I q (by simp))
  | _=>exact absurd (show false=true from hs) Ai
 | str i=>
  obtain ⟨t,rfl⟩:=rx;cases y with
  | non=>cases ry;exact PySem.EqNone.ne_str_none (qR I q (by simp))
  | bl j=>cases ry;exact PySem.EqMixed.ne_str_bool (qR I q (by simp))
  | int j=>obtain ⟨t',rfl⟩:=ry;exact PySem.EqMixed.ne_str_int (qR I q (by simp))
  | str j=>obtain ⟨t',rfl⟩:=ry;exact ne_str (qR I q (congrArg not qax))
  | _=>exact absurd (show false=true from hs) Ai
 | byt i=>
  obtain ⟨t,rfl⟩:=rx;cases y with
  | byt j=>obtain ⟨t',rfl⟩:=ry;exact PySem.W.ne_bytes (qR I q (congrArg not qaz))
  | _=>exact absurd (show false=true from hs) Ai
 | _=>cases y <;> exact absurd (show false=true from hs) Ai
theorem Vh:OpR X (compareOp .Lt) (rI0 fun i j=> .bl (decide (i<j))):=qg3 fun _ _ _ _ _ _ _ q=>lt_int q
theorem W4:OpR X (compareOp .LtE) (rI0 fun i j=> .bl (decide (i≤j))):=qg3 fun _ _ _ _ _ _ _ q=>le_int q
theorem Yz:OpR X (compareOp .Gt) (rI0 fun i j=> .bl (decide (j<i))):=qg3 fun _ _ _ _ _ _ _ q=>gt_int q
theorem qk0:OpR X (compareOp .GtE) (rI0 fun i j=> .bl (decide (j≤i))):=qg3 fun _ _ _ _ _ _ _ q=>ge_int q
theorem Yy:OpR X (compareOp .In) (fun x y H Q=>∃ i j,x= .str i∧y= .str j∧Q (.bl (!(Builtin.Str.occurrences j i 0 j.length 1).isEmpty)) H):=by
 intro pins s σ H x y v u Q I rx ry h;obtain ⟨i,j,rfl,rfl,q⟩:=h;obtain ⟨t,rfl⟩:=rx;obtain ⟨t',rfl⟩:=ry;exact in_str (qR I q rfl)
theorem qi8:OpR X (compareOp .Is) (fun x y H Q=>y= .non∧Q (.bl (decide (x= .non))) H):=by
 intro pins s σ H x y v u Q I rx ry h;obtain ⟨rfl,q⟩:=h;cases ry;refine is_none_gen (qR I q ?_);cases x <;> first
  | (cases rx;rfl)
  | (obtain ⟨t,rfl⟩:=rx;rfl)
theorem OpR.or {f:Ab→Ab→Sem Ab} {r r':R2} (h:OpR X f r) (h':OpR X f r'):OpR X f (fun x y H Q=>r x y H Q∨r' x y H Q):=by
 intro pins s σ H x y v u Q I rx ry q;rcases q with q | q
 ·exact h pins s σ H x y v u Q I rx ry q
 ·exact h' pins s σ H x y v u Q I rx ry q
theorem qw (b:Expr) {op:CmpOp} (h:op≠ .In:=by decide) (h2:op≠ .NotIn:=by decide):behindInMarks op b=false:=by
 have e1:(op==CmpOp.In)=false:=by cases op <;> first | rfl | exact absurd rfl h
 have e2:(op==CmpOp.NotIn)=false:=by cases op <;> first | rfl | exact absurd rfl h2
 cases b <;> simp [behindInMarks,e1,e2]
theorem zf {op:CmpOp} {r:R2} (ho:OpR X (compareOp op) r) (ha:PE X a ta) (hb:PE X b tb) (hm:behindInMarks op b=false):PE X (.Compare a [op] [b] pos) (tOp r ta tb):=by
 intro pins s σ H Q I h;exact wpAny_Compare1 (qj2 ha hb I h fun v u s2 x y H2 I2 rx ry q=>ho pins s2 σ H2 x y v u Q I2 rx ry q) hm
def qW (t:TE):TT:=fun σ H Q=>t σ H fun x H'=>∃ k,x= .bl k∧Q k H'
theorem qq {op:CmpOp} {r:R2} (ho:OpR X (compareOp op) r) (ha:PE X a ta) (hb:PE X b tb) (hm:behindInMarks op b=false):PT X (.Compare a [op] [b] pos) (qW (tOp r ta tb)):=by
 intro pins s σ H Q I h;refine wpAny_isTrue_Compare1 (thn (ha pins s σ H _ I h) fun v s1 ⟨x,H1,I1,r1,q1⟩=>thn (hb pins s1 σ H1 _ I1 q1) fun u s2 ⟨y,H2,I2,r2,q2⟩=>
  thn (ho pins s2 σ H2 x y v u _ I2 r1 r2 q2) fun c s3 ⟨z,H3,I3,r3,k,e,q3⟩=>?_) hm
 subst e;cases r3;exact Co ⟨H3,I3,q3⟩
def qc8 (r r':R2) (ta tb tc:TE):TE:=fun σ H Q=>ta σ H fun x H1=>tb σ H1 fun y H2=>r x y H2 fun z H3=>∃ k,z= .bl k∧
 (if k=true then tc σ H3 fun w' H4=>r' y w' H4 Q else Q (.bl false) H3)
theorem W2 {op op':CmpOp} {r r':R2} (ho:OpR X (compareOp op) r) (ho':OpR X (compareOp op') r') (ha:PE X a ta) (hb:PE X b tb) (hc:PE X c tc)
  (hm:lastMarks [op,op'] [b,c]=false:=by with_unfolding_all rfl):PE X (.Compare a [op,op'] [b,c] pos) (qc8 r r' ta tb tc):=by
 intro pins s σ H Q I h;refine Compare_chain (thn (ha pins s σ H _ I h) fun v s1 ⟨x,H1,I1,r1,q1⟩=>chain_link (thn (hb pins s1 σ H1 _ I1 q1) fun u s2 ⟨y,H2,I2,r2,q2⟩=>
  thn (ho pins s2 σ H2 x y v u _ I2 r1 r2 q2) fun d s3 ⟨z,H3,I3,r3,k,e,q3⟩=>?_)) hm
 subst e;cases r3;refine Co ?_;cases k with
 | false=>exact ite_ff ⟨.bl false,H3,I3,rfl,q3⟩
 | true=>exact ite_tt (chain_last (thn (hc pins s3 σ H3 _ I3 q3) fun w' s4 ⟨z',H4,I4,r4,q4⟩=>ho' pins s4 σ H4 y z' u w' Q I4 r2 r4 q4))
theorem qd2 {op op':CmpOp} {r r':R2} (ho:OpR X (compareOp op) r) (ho':OpR X (compareOp op') r') (ha:PE X a ta) (hb:PE X b tb) (hc:PE X c tc)
  (hm:lastMarks [op,op'] [b,c]=false:=by with_unfolding_all rfl):PT X (.Compare a [op,op'] [b,c] pos) (qW (qc8 r r' ta tb tc)):=by
 intro pins s σ H Q I h;refine isTrue_chain (thn (ha pins s σ H _ I h) fun v s1 ⟨x,H1,I1,r1,q1⟩=>test_link (thn (hb pins s1 σ H1 _ I1 q1) fun u s2 ⟨y,H2,I2,r2,q2⟩=>
  thn (ho pins s2 σ H2 x y v u _ I2 r1 r2 q2) fun d s3 ⟨z,H3,I3,r3,k,e,q3⟩=>?_)) hm
 subst e;cases r3;refine Co ?_;cases k with
 | false=>
  obtain ⟨k',e',q'⟩:=q3;cases e';exact ite_ff ⟨H3,I3,q'⟩
 | true=>
  refine ite_tt (test_last (thn (hc pins s3 σ H3 _ I3 q3) fun w' s4 ⟨z',H4,I4,r4,q4⟩=>thn (ho' pins s4 σ H4 y z' u w' _ I4 r2 r4 q4) fun d' s5 ⟨z2,H5,I5,r5,k2,e2,q5⟩=>?_));subst e2;cases r5;exact Co ⟨H5,I5,q5⟩
def qhw (K:Frag) (x:V) (H:Hp) (k:Bool):Prop:=
 match x with
 | .non=>k=false
 | .bl b=>k=b
 | .int i=>k=(i !=0)
 | .str y=>y.length≤Af∧k=((y.length:Int) !=0)
 | .byt y=>y.size≤Af∧k=((y.size:Int) !=0)
 | .ref p=>(∃ xs,SqL K H p xs∧k=!xs.isEmpty)∨(∃ xs,SqT K H p xs∧k=!xs.isEmpty)∨∃ kvs,H p=some (.dK kvs)∧k=!kvs.isEmpty
 | _=>False
theorem QL {κ:Type} {kvs:List (κ×V)} {vs:List (κ×Ab)} (r:KV kvs vs):(!vs.isEmpty)=!kvs.isEmpty:=by
 cases r <;> rfl
theorem yg {xs:List V} {its:List Ab} (r:qH xs its):(!its.toArray.isEmpty)=!xs.isEmpty:=by
 cases r <;> simp
theorem wk:(Af:Nat)<2 ^ 63:=by rw [Ed];decide
theorem qij:TruR X (fun x H Q=>∃ k,qhw X.K x H k∧Q k H):=by
 intro pins s σ H x v Q I rx h;obtain ⟨k,e,q⟩:=h;have hl:=wk;have hs:Af=16777216:=Ed;cases x with
 | non=>
  cases rx;have e':k=false:=e;subst e';exact truthy_none ⟨H,I,q⟩
 | bl b=>
  cases rx;have e':k=b:=e;subst e';exact Co ⟨H,I,q⟩
 | int i=>
  obtain ⟨t,rfl⟩:=rx;have e':k=(i !=0):=e;subst e';exact PySem.P.truthy_int ⟨H,I,q⟩
 | str y=>
  obtain ⟨t,rfl⟩:=rx;obtain ⟨hy,e'⟩:y.length≤Af∧k=((y.length:Int) !=0):=e;subst e';exact PySem.P.truthy_str ⋯ ⟨H,I.tok _,q⟩
 | byt y=>
  obtain ⟨t,rfl⟩:=rx;obtain ⟨hy,e'⟩:y.size≤Af∧k=((y.size:Int) !=0):=e;subst e';exact PySem.W.truthy_bytes ⋯ ⟨H,I.tok _,q⟩
 | ref p=>
  cases rx;have e':(∃ xs,SqL X.K H p xs∧k=!xs.isEmpty)∨(∃ xs,SqT X.K H p xs∧k=!xs.isEmpty)∨∃ kvs,H p=some (.dK kvs)∧k=!kvs.isEmpty:=e;rcases e' with ⟨xs,hx,e'⟩ | ⟨xs,hx,e'⟩ | ⟨kvs,hx,e'⟩
  ·subst e';obtain ⟨its,r,pl,hz⟩:=I.list hx;have hlen:=r.length;exact wpAny_truthy_list pl.isList (by simp only [A6];omega) ⟨H,I.tok _,by rw [yg r];exact q⟩
  ·subst e';obtain ⟨its,r,pl,hz⟩:=I.tuple hx;have hlen:=r.length;exact truthy_tuple pl (by simp only [A6];omega) ⟨H,I.tok _,by rw [yg r];exact q⟩
  ·subst e';obtain ⟨hz,hS,vs,r,m⟩:kvs.length≤Af∧(p==sysModules)=false∧∃ vs,KV kvs vs∧s.heap.DictOf (zb X.prog X.w) p vs:=I.hok p _ hx;have hlen:kvs.length=vs.length:=Cw r;exact wpAny_truthy_dict hS m ⋯ ⟨H,I.tok _,by rw [QL r];exact q⟩
 | _=>exact (show False from e).elim
theorem qd0 (ha:PE X a ta) (he:∀ whole,isTrue a X.env whole=(do let v ← whole;standAt a.pos;holding [v] (truthy v))):
  PT X a (fun σ H Q=>ta σ H fun x H'=>∃ k,qhw X.K x H' k∧Q k H'):=by
 intro pins s σ H Q I h;exact isTrue_plain (thn (ha pins s σ H _ I h) fun v s1 ⟨x,H1,I1,r1,q1⟩=>qij pins s1 σ H1 x v Q I1 r1 q1) (he _)
theorem Qu:OpR X (binaryOp .Add) (fun x y H Q=>∃ i j,x= .str i∧y= .str j∧i.length+j.length≤Af∧Q (.str (i++j)) H):=by
 intro pins s σ H x y v u Q I rx ry h;obtain ⟨i,j,rfl,rfl,hz,q⟩:=h;obtain ⟨t,rfl⟩:=rx;obtain ⟨t',rfl⟩:=ry;exact add_str (fun t' tk=>⟨.str (i++j),H,I.tok _,⟨_,rfl⟩,q⟩) hz
theorem JE {x:V} {us:List Ab} (r:qH [x] us):∃ u,us=[u]∧qL x u:=by
 cases r with
 | cons r1 r2=>cases r2;exact ⟨_,rfl,r1⟩
theorem qh1 {x y:V} {us:List Ab} (r:qH [x,y] us):∃ u w',us=[u,w']∧qL x u∧qL y w':=by
 cases r with
 | cons r1 r2=>
  cases r2 with
  | cons r3 r4=>cases r4;exact ⟨_,_,rfl,r1,r3⟩
theorem YV (hc:X.calm=true):Je X (.builtin "max") (fun xs H Q=>∃ i j,xs=[.int i,.int j]∧Q (.int (if j>i then j else i)) H):=by
 intro pins s σ H xs us Q I r h;obtain ⟨i,j,rfl,q⟩:=h;obtain ⟨u,w',rfl,⟨t,rfl⟩,⟨t',rfl⟩⟩:=qh1 r;refine max_two_ints (I.ok.hd hc) fun h' tk k=>⟨_,H,I.kept k,?_,q⟩
 by_cases hj:j>i
 ·rw [if_pos hj,if_pos hj];exact ⟨_,rfl⟩
 ·rw [if_neg hj,if_neg hj];exact ⟨_,rfl⟩
theorem v9:Je X (.type "int") (fun xs H Q=>(∃ i,xs=[.int i]∧Q (.int i) H)∨∃ k,xs=[.bl k]∧Q (.int (if k then 1 else 0)) H):=by
 intro pins s σ H xs us Q I r h;rcases h with ⟨i,rfl,q⟩ | ⟨k,rfl,q⟩
 ·obtain ⟨u,rfl,t,rfl⟩:=JE r;exact call_int_int ⟨.int i,H,I,⟨_,rfl⟩,q⟩
 ·obtain ⟨u,rfl,r1⟩:=JE r;cases r1;exact call_int_bool ⟨.int (if k then 1 else 0),H,I.tok _,⟨_,rfl⟩,q⟩
theorem qfo:Je X (.builtin "ord") (fun xs H Q=>∃ x,xs=[.str x]∧x.length=1∧Q (.int (x.cps.getD 0 0:Nat)) H):=by
 intro pins s σ H xs us Q I r h;obtain ⟨x,rfl,hz,q⟩:=h;obtain ⟨u,rfl,t,rfl⟩:=JE r;exact ord_of_one hz ⟨.int _,H,I.tok _,⟨_,rfl⟩,q⟩
def wz (K:Frag) (x:V) (H:Hp) (n:Nat):Prop:=
 match x with
 | .str y=>y.length≤Af∧n=y.length
 | .byt y=>y.size≤Af∧n=y.size
 | .ref p=>(∃ xs,SqL K H p xs∧n=xs.length)∨∃ xs,SqT K H p xs∧n=xs.length
 | _=>False
theorem qfp:Je X (.builtin "len") (fun xs H Q=>∃ x n,xs=[x]∧wz X.K x H n∧Q (.int n) H):=by
 intro pins s σ H xs us Q I r h;obtain ⟨x,n,rfl,e,q⟩:=h;obtain ⟨u,rfl,rx⟩:=JE r;have hl:=wk;have hs:Af=16777216:=Ed;cases x with
 | str y=>
  obtain ⟨t,rfl⟩:=rx;obtain ⟨hy,e'⟩:y.length≤Af∧n=y.length:=e;subst e';exact len_str ⋯ ⟨.int _,H,I.tok _,⟨_,rfl⟩,q⟩
 | byt y=>
  obtain ⟨t,rfl⟩:=rx;obtain ⟨hy,e'⟩:y.size≤Af∧n=y.size:=e;subst e';exact PySem.W.len_bytes ⋯ ⟨.int _,H,I.tok _,⟨_,rfl⟩,q⟩
 | ref p=>
  cases rx;have e':(∃ xs,SqL X.K H p xs∧n=xs.length)∨∃ xs,SqT X.K H p xs∧n=xs.length:=e;rcases e' with ⟨xs,hx,e'⟩ | ⟨xs,hx,e'⟩
  ·subst e';obtain ⟨its,r',pl,hz⟩:=I.list hx;have hlen:=r'.length;exact Calls.call_len_list pl.isList (by simp only [A6];omega) ⟨.int xs.length,H,I.tok _,⟨_,by simp only [A6];rw [hlen]⟩,q⟩
  ·subst e';obtain ⟨its,r',pl,hz⟩:=I.tuple hx;have hlen:=r'.length;exact len_tuple pl (by simp only [A6];omega) ⟨.int xs.length,H,I.tok _,⟨_,by simp only [A6];rw [hlen]⟩,q⟩
 | _=>exact (show False from e).elim
end
structure ObjM (h:Heap) (x dx C:Ac) (mA:Str→Option Ab):Prop where
 obj:h.get? x=some (PySem.W.instObj C dx)
 ns:h.Ns1 dx mA
 ne:dx≠x
set_option tactic.hygienic true in
theorem qb4 {h:Heap} {dx:Ac} {mA:Str→Option Ab} (n:h.Ns1 dx mA):∃ od,h.get? dx=some od∧∀ name,PySem.W.lookIn name od=some (mA name):=by
 obtain ⟨o,es,ep,ho,hd,hk,_,hm⟩:=n;refine ⟨o,ho,fun name=>?_⟩;have e:=hm name;unfold nsFind findBy at e;rw [← Array.find?_toList] at e;unfold PySem.W.lookIn;rw [hd];dsimp only;split
 ·rename_i y q;rw [q] at e;exact congrArg some e
 ·rename_i q;rw [q] at e;have a:es.toList.any (·.refKey)=false:=by
   rw [List.any_eq_false];intro y hy;obtain ⟨z,t,hkey⟩:=hk y (Array.mem_toList_iff.mp hy);simp [DictEntry.refKey,hkey]
  have a':¬ es.toList.any (·.refKey)=true:=by rw [a];exact Ai
  rw [if_neg a'];exact congrArg some e
theorem ObjM.look {h:Heap} {x dx C:Ac} {mA:Str→Option Ab} (I:ObjM h x dx C mA):∃ od,PySem.W.InstAt h x (PySem.W.instObj C dx) C (some od)∧∀ name,PySem.W.lookIn name od=some (mA name):=
 let ⟨od,ho,hl⟩:=qb4 I.ns
 ⟨od,⟨I.obj,rfl,rfl,ho⟩,hl⟩
section
variable {prog:Program} {w:World} {A:Around} {E:Ab→Ae→Prop} {s:Ae} {K:Frag} {x dx C f:Ac} {mA:Str→Option Ab} {name:Str} {v:Ab}
theorem qhl {expr:Bool} {Q:Ab→Ae→Prop} (X:K.In s.heap) (I:ObjM s.heap x dx C mA) (hg:PySem.W.plainGet K C name=true) (hh:PySem.W.hasDictIn K C=true)
  (ha:PySem.W.findIn K (.ref C) name=some none) (hv:mA name=some v) (hv':PySem.W.handedIn v=true) (h:Q v {s with toks:=s.toks+1}):
  wpAny (model prog w) A (getAttr (.ref x) name expr) Q E s:=by
 obtain ⟨od,J,hl⟩:=I.look;exact PySem.W.get_value X J (PySem.W.plainGet_of hg).1 (PySem.W.findObj_own hh ha rfl (by rw [hl,hv])) hv' h
theorem qe3 {pl:Sem Bool} {Q:Ab×List Ab→Ae→Prop} (X:K.In s.heap) (I:ObjM s.heap x dx C mA) (hg:PySem.W.plainGet K C name=true)
  (hf:PySem.W.findIn K (.ref C) name=some (some (.ref f))) (ht:PySem.W.isFn K (.ref f)=true) (hv:mA name=none) (h:Q (.ref f,[.ref x]) s):
  wpAny (model prog w) A (getMethod (.ref x) name pl) Q E s:=by
 obtain ⟨od,J,hl⟩:=I.look;exact PySem.W.method_fn X J (PySem.W.plainGet_of hg).1 (PySem.W.plainGet_of hg).2 hf (Az.mp ht) (by show (PySem.W.lookIn name od).map (·.isSome)=some false;rw [hl,hv];rfl) h
theorem qgi {ns:List Str} {Q:Unit→Ae→Prop} (X:K.In s.heap) (I:ObjM s.heap x dx C mA)
  (hs:PySem.W.findIn K (.ref C) "__setattr__"=some (some (.builtin "object.__setattr__"))) (hp:PySem.W.plainOver K C=true) (ht:PySem.W.takerIn K C name=some none) (hh:PySem.W.hasDictIn K C=true)
  (hw:PySem.Within mA ns) (hsz:ns.length≤Af)
  (h:∀ h',ObjM h' x dx C (fun y=>if y=name then some v else mA y)→Heap.SameBut dx s.heap h'→Q () {s with heap:=h',toks:=s.toks+2}):
  wpAny (model prog w) A (setAttr (.ref x) name v) Q E s:=by
 obtain ⟨od,J,hl⟩:=I.look;refine PySem.W.set_plain X J hs (PySem.W.osa_open (s:={s with toks:=s.toks+1}) (r:=none) X J hp ht fun b=>?_)
 obtain ⟨cd,hc,hd'⟩:=PySem.W.any_some hh;have hx:s.heap.get? x=some ⟨.ref C,some dx,.plain,#[]⟩:=I.obj;refine Am (A8 (Am (Am (wpAny_loadPart hx (Am (PySem.W.Looks.here (s:={s with toks:=s.toks+1}) (PySem.W.looks_clsIn X hc) ?_))))))
 rw [hd'];refine A8 (a:=some dx) (Am (A8 (Am ?_)));refine wpAny_nsSet1 (s:={s with toks:=s.toks+1}) I.ns fun h' hn2 hs2=>?_
 obtain ⟨oD,esD,epD,hoD,hdD,hcD⟩:=hn2.count (PySem.Within.cons name v hw);refine Am (wpAny_lookBehind hoD (by rw [hdD];exact pastItsLine_dict (Aw hcD (by rw [Aj];omega))) ?_)
 exact A8 (h _ ⟨(hs2.2 _ (Ne.symm I.ne)).trans I.obj,hn2,I.ne⟩ hs2)
theorem qet {R:Result→Ae→Prop} {vs:List Ab} {kw:List (Str×Ab)} (X:K.In s.heap) (hm:PySem.W.makesIn K C=true)
  (hi:PySem.W.findIn K (.ref C) "__init__"=some (some (.ref f))) (hf:PySem.W.typeIn K (.ref f)=some (.type "function"))
  (h:codeAny (model prog w) (A.under (.builtin "type.__call__" ⟨.ref C::vs,kw⟩)) (.call (.ref f) ⟨.ref (s.heap.objs.size+1)::vs,kw⟩) (PySem.W.InitBack (s.heap.objs.size+1) R)
   {s with heap:=(s.heap.push PySem.W.emptyDict).push (PySem.W.instObj C s.heap.objs.size)}):
  codeAny (model prog w) A (.call (.ref C) ⟨vs,kw⟩) R s:=by
 obtain ⟨hh,g,d,t,os⟩:=s;exact PySem.W.make_core (PySem.W.makes_of X hm) (PySem.W.looks_findIn X hi) (fun self=>PySem.W.bind_fn X self hf) (.inl rfl) h
end
def vf (f:Str) (v:V):List (Str×V)→List (Str×V)
 | []=>[(f,v)]
 | (g,x)::r=>if g=f then (g,v)::r else (g,x)::vf f v r
theorem wK (f g:Str) (v:V):∀ fs:List (Str×V),(vf f v fs).lookup g=if g=f then some v else fs.lookup g
 | []=>by
  show List.lookup g [(f,v)]=_
  by_cases h:g=f
  ·have hb:(g==f)=true:=Az.mpr h;simp only [List.lookup,hb,if_pos h]
  ·have hb:(g==f)=false:=Bf.mpr h;simp only [List.lookup,hb,if_neg h]
 | (k,x)::r=>by
  have ih:=wK f g v r;rw [show vf f v ((k,x)::r)=(if k=f then (k,v)::r else (k,x)::vf f v r) from rfl]
  by_cases hk:k=f
  ·rw [if_pos hk]
   by_cases h:g=k
   ·have hb:(g==k)=true:=Az.mpr h;simp only [List.lookup,hb,if_pos (h.trans hk)]
   ·have hb:(g==k)=false:=Bf.mpr h;simp only [List.lookup,hb,if_neg (fun e:g=f=>h (e.trans hk.symm))]
  ·rw [if_neg hk]
   by_cases h:g=k
   ·have hb:(g==k)=true:=Az.mpr h;simp only [List.lookup,hb,if_neg (fun e:g=f=>hk (h.symm.trans e))]
   ·have hb:(g==k)=false:=Bf.mpr h;simp only [List.lookup,hb];exact ih
theorem wm (f:Str) (v:V):∀ fs:List (Str×V),f∈(vf f v fs).map (·.1)∧∀ g,g∈fs.map (·.1)→g∈(vf f v fs).map (·.1)
 | []=>⟨by simp [vf],fun g h=>by simp at h⟩
 | (k,x)::r=>by
  obtain ⟨i1,i2⟩:=wm f v r;rw [show vf f v ((k,x)::r)=(if k=f then (k,v)::r else (k,x)::vf f v r) from rfl]
  by_cases hk:k=f
  ·rw [if_pos hk];subst hk;exact ⟨by simp,fun g h=>by simpa using h⟩
  ·rw [if_neg hk];refine ⟨?_,fun g h=>?_⟩
   ·rw [As];exact Ao _ i1
   ·rw [As] at h ⊢;rcases Ap.mp h with e | e
    ·exact Ap.mpr (.inl e)
    ·exact Ao _ (i2 g e)
theorem wL (f:Str) (v:V):∀ fs:List (Str×V),(vf f v fs).length≤fs.length+1
 | []=>by simp [vf]
 | (k,x)::r=>by
  have ih:=wL f v r;rw [show vf f v ((k,x)::r)=(if k=f then (k,v)::r else (k,x)::vf f v r) from rfl]
  by_cases hk:k=f
  ·rw [if_pos hk,Aj,Aj];omega
  ·rw [if_neg hk,Aj,Aj];omega
theorem Vd.some_of {v:V} {o:Option Ab} (r:Vd (some v) o):∃ u,o=some u∧qL v u:=by
 cases o with
 | none=>exact (show False from r).elim
 | some u=>exact ⟨u,rfl,r⟩
theorem Vd.none_of {o:Option Ab} (r:Vd none o):o=none:=by
 cases o with
 | none=>rfl
 | some u=>exact (show False from r).elim
theorem qb8 {v:V} {u:Ab} (r:qL v u):PySem.W.handedIn u=true:=by
 cases v with
 | non=>cases (show u=Value.none from r);rfl
 | bl b=>cases (show u=Value.bool b from r);rfl
 | int i=>obtain ⟨t,e⟩:=(show ∃ t,u=Value.int i t from r);cases e;rfl
 | str x=>obtain ⟨t,e⟩:=(show ∃ t,u=Value.str x t from r);cases e;rfl
 | byt b=>obtain ⟨t,e⟩:=(show ∃ t,u=Value.bytes b t from r);cases e;rfl
 | flt b=>obtain ⟨t,e⟩:=(show ∃ t,u=Value.float b t from r);cases e;rfl
 | ref a=>cases (show u=Value.ref a from r);rfl
 | ty n=>cases (show u=Value.type n from r);rfl
section
variable {P:Program} {w:World} {H H':Hp} {h h':Heap} {a C dx:Ac} {fs fs':List (Str×V)}
theorem Wr (hok:HOk P w H h) (e:H a=some (.ins C dx fs)):∃ mA,ObjM h a dx C mA∧(∀ f,Vd (fs.lookup f) (mA f))∧PySem.Within mA (fs.map (·.1))∧fs.length≤1000∧H dx=some (.own a):=by
 obtain ⟨d,z,ne,ob,mA,n,r,q⟩:=(show zq P w H h a (.ins C dx fs) from hok a _ e);exact ⟨mA,⟨ob,n,ne⟩,r,q,z,d⟩
end
structure Cls (K:Frag) (C:Ac):Prop where
 pg:PySem.W.plainGet K C Str.empty=true
 hd:PySem.W.hasDictIn K C=true
 po:PySem.W.plainOver K C=true
 sa:PySem.W.findIn K (.ref C) "__setattr__"=some (some (.builtin "object.__setattr__"))
theorem Cls.get {K:Frag} {C:Ac} (c:Cls K C) (f:Str):PySem.W.plainGet K C f=true:=c.pg
def wy (K:Frag) (C:Ac) (f:Str):Prop:=PySem.W.findIn K (.ref C) f=some none
theorem wy.taker {K:Frag} {C:Ac} {f:Str} (n:wy K C f):PySem.W.takerIn K C f=some none:=by
 unfold PySem.W.takerIn;rw [show PySem.W.findIn K (.ref C) f=some none from n];rfl
structure Meth (K:Frag) (C:Ac) (m:Str) (f:Ac):Prop where
 at_:PySem.W.findIn K (.ref C) m=some (some (.ref f))
 fn:PySem.W.isFn K (.ref f)=true
 kp:PySem.W.keepIn K (.ref f)=true
section
variable {X:Cx} {pins:List (Ac×Obj)} {σ:St} {H:Hp} {s:Ae} {a C dx:Ac} {fs:List (Str×V)} {f:Str} {v:V} {A:Around} {E:Ab→Ae→Prop}
theorem QS {b:Bool} {Q:Ab→Ae→Prop} (I:Inv X pins σ H s) (e:H a=some (.ins C dx fs)) (c:Cls X.K C) (n:wy X.K C f) (l:fs.lookup f=some v)
  (h:∀ u s',Inv X pins σ H s'→qL v u→Q u s'):wpAny (model X.prog X.w) A (getAttr (.ref a) f b) Q E s:=by
 obtain ⟨mA,O,r,_,_,_⟩:=Wr I.hok e;obtain ⟨u,hu,ru⟩:=Vd.some_of (v:=v) (o:=mA f) (by rw [← l];exact r f)
 exact qhl I.kIn O (c.get f) c.hd n hu (qb8 ru) (h u _ (I.tok _) ru)
theorem QR {m:Str} {g:Ac} {pl:Sem Bool} {Q:Ab×List Ab→Ae→Prop} (I:Inv X pins σ H s) (e:H a=some (.ins C dx fs)) (c:Cls X.K C) (k:Meth X.K C m g) (l:fs.lookup m=none)
  (h:Q (.ref g,[.ref a]) s):wpAny (model X.prog X.w) A (getMethod (.ref a) m pl) Q E s:=by
 obtain ⟨mA,O,r,_,_,_⟩:=Wr I.hok e;have hn:mA m=none:=Vd.none_of (by rw [← l];exact r m)
 exact qe3 I.kIn O (c.get m) k.at_ k.fn hn h
theorem Qg {y:V} {u:Ab} {Q:Unit→Ae→Prop} (I:Inv X pins σ H s) (e:H a=some (.ins C dx fs)) (c:Cls X.K C) (n:wy X.K C f) (hl:fs.length<1000) (ry:qL y u)
  (h:∀ s',Inv X pins σ (upd H a (.ins C dx (vf f y fs))) s'→Q () s'):wpAny (model X.prog X.w) A (setAttr (.ref a) f u) Q E s:=by
 obtain ⟨mA,O,r,wi,_,ho⟩:=Wr I.hok e;have hz:(fs.map (·.1)).length≤Af:=by rw [Ah,Ed];omega
 refine qgi I.kIn O c.sa c.po n.taker c.hd wi hz fun h' O' sb=>h _ ?_;have hd:∃ o,h'.get? dx=some o:=let ⟨o,_,_,e',_⟩:=O'.ns;⟨o,e'⟩;refine I.write (x:=a) (e:=dx) (by rw [e];exact True.intro) (.inr ho) (fun b q hb z=>(sb.2 b hb).trans z) hd ?_
 refine ⟨by rw [qu O.ne];exact ho,?_,O.ne,O'.obj,_,O'.ns,fun g=>?_,fun g hg=>?_⟩
 ·have:=wL f y fs;omega
 ·show Vd ((vf f y fs).lookup g) (if g=f then some u else mA g)
  rw [wK]
  by_cases q:g=f
  ·rw [if_pos q,if_pos q];exact ry
  ·rw [if_neg q,if_neg q];exact r g
 ·by_cases q:g=f
  ·rw [q];exact (wm f y fs).1
  ·refine (wm f y fs).2 g (wi g fun z=>hg ?_);show (if g=f then some u else mA g)=none
   rw [if_neg q];exact z
theorem Inv.made (I:Inv X pins σ H s):Inv X pins σ (upd (upd H s.heap.objs.size (.own (s.heap.objs.size+1))) (s.heap.objs.size+1) (.ins C s.heap.objs.size []))
  {s with heap:=(s.heap.push PySem.W.emptyDict).push (PySem.W.instObj C s.heap.objs.size)}:=by
 have e1:(s.heap.push PySem.W.emptyDict).get? s.heap.objs.size=some PySem.W.emptyDict:=Bh s.heap rfl;have e2:((s.heap.push PySem.W.emptyDict).push (PySem.W.instObj C s.heap.objs.size)).get? (s.heap.objs.size+1)=some (PySem.W.instObj C s.heap.objs.size):=by
  have:=Bh (s.heap.push PySem.W.emptyDict) (o:=PySem.W.instObj C s.heap.objs.size) rfl
  rwa [Cp] at this
 have e3:(s.heap.push PySem.W.emptyDict).Ns s.heap.objs.size (fun _=>none):=⟨PySem.W.emptyDict,#[],_,e1,rfl,(fun e he=>absurd he (by simp)),fun _=>rfl⟩
 have I1:=I.laid (a:=s.heap.objs.size) (o:= .own (s.heap.objs.size+1)) (h':=s.heap.push PySem.W.emptyDict) (t':=s.toks) (fun b u q=>Av _ q) (Ax _) ⟨_,e1⟩;refine I1.laid (a:=s.heap.objs.size+1) (o:= .ins C s.heap.objs.size []) (t':=s.toks) (fun b u q=>Av _ q) (Nat.le_of_eq (Cp _ _)) ?_;have ne:s.heap.objs.size≠s.heap.objs.size+1:=Bu (Eg _);refine ⟨by rw [qu ne,upd_same],Bm _,ne,e2,fun _=>none,(Heap.Ns1.of_empty e3).at fun o q=>Av _ q,fun _=>True.intro,fun y hy=>absurd rfl hy⟩
theorem qhu {prog:Program} {w:World} {env:Env} {e:Expr} {f:Str} {pos:Pos} {s:Ae} {Q:Ab→Ae→Prop} (hb:attributeBase e f env (eval e env)=eval e env)
  (h:wpAny (model prog w) A (eval e env) (fun o s₁=>wpAny (model prog w) A (getAttr o f true) Q E s₁) E s):wpAny (model prog w) A (eval (.Attribute e f pos) env) Q E s:=
 Attribute_any_ h (by rw [arm_eval_Attribute,hb])
end
def qga (K:Frag) (ta:TE) (f:Str):TE:=fun σ H Q=>ta σ H fun x H1=>∃ a C dx fs v,x= .ref a∧H1 a=some (.ins C dx fs)∧Cls K C∧wy K C f∧fs.lookup f=some v∧Q v H1
def sFld (K:Frag) (ta tv:TE) (f:Str):TS:=fun D σ H=>tv σ H fun y H1=>ta σ H1 fun x H2=>∃ a C dx fs,x= .ref a∧H2 a=some (.ins C dx fs)∧Cls K C∧wy K C f∧fs.length<1000∧
 D.nx σ (upd H2 a (.ins C dx (vf f y fs)))
section
variable {X:Cx} {o e value:Expr} {f:Str} {pos pos' tpos:Pos} {ta tv:TE}
theorem je (he:PE X e ta) (hb:attributeBase e f X.env (eval e X.env)=eval e X.env):PE X (.Attribute e f pos) (qga X.K ta f):=by
 intro pins s σ H Q I h;refine qhu hb (thn (he pins s σ H _ I h) fun u s1 ⟨x,H1,I1,rx,a,C,dx,fs,v,ex,ea,c,n,l,q⟩=>?_);subst ex;obtain rfl:u=Value.ref a:=rx;exact QS I1 ea c n l fun u' s2 I2 ru=>⟨v,H1,I2,ru,q⟩
theorem qd5 (ha:PE X o ta) (hv:PE X value tv) (hs:swapsWith value (some (.Attribute o f pos')) pos.line X.env=pure false):PS X (.Assign [.Attribute o f pos'] value pos) (sFld X.K ta tv f):=by
 intro pins s σ H D I h;refine plainObj_wpAny_Assign_Attribute (thn (hv pins s σ H _ I h) fun u s1 ⟨y,H1,I1,ry,q⟩=>thn (ha pins s1 σ H1 _ I1 q) fun ov s2 ⟨x,H2,I2,rx,a,C,dx,fs,ex,ea,c,n,l,q2⟩=>?_) hs;subst ex;obtain rfl:ov=Value.ref a:=rx;exact Qg I2 ea c n l ry fun s3 I3=>⟨σ,_,I3,q2⟩
end
section
variable {X:Cx} {pins:List (Ac×Obj)} {σ:St} {H:Hp} {s:Ae} {A:Around} {E:Ab→Ae→Prop} {Q:Ab→Ae→Prop} {c:Ab} {b:Bool}
inductive TyOf (K:Frag) (H:Hp):V→Ab→Prop where
 | non:TyOf K H .non (.type "NoneType")
 | bl (x:Bool):TyOf K H (.bl x) (.type "bool")
 | int (i:Int):TyOf K H (.int i) (.type "int")
 | str (x:Str):TyOf K H (.str x) (.type "str")
 | flt (x:UInt64):TyOf K H (.flt x) (.type "float")
 | lst {a:Ac} {xs:List V} (e:H a=some (.lst xs)):TyOf K H (.ref a) (.type "list")
 | frz {a:Ac} {o:Obj} {xs:List V} (e:H a=some (.frz o (.lst xs))):TyOf K H (.ref a) (.type "list")
 | tup {a:Ac} {xs:List V} (e:H a=some (.tup xs)):TyOf K H (.ref a) (.type "tuple")
 | dK {a:Ac} {kvs:List (Key×V)} (e:H a=some (.dK kvs)):TyOf K H (.ref a) (.type "dict")
 | dT {a:Ac} {kvs:List (List Key×V)} (e:H a=some (.dT kvs)):TyOf K H (.ref a) (.type "dict")
 | ins {a C dx:Ac} {fs:List (Str×V)} (e:H a=some (.ins C dx fs)) (cl:Cls K C) (ha:PySem.W.findIn K (.ref C) "__class__"=some (some (.builtin "object.__class__")))
   (hn:PySem.W.specialIn K (.builtin "object.__class__") "__get__"=some (some (.builtin "getset_descriptor.__get__"))) (htk:PySem.W.takesIn K (.builtin "object.__class__")=some true)
   (hm:PySem.W.mroIn K C (.type "object")=some true):TyOf K H (.ref a) (.ref C)
theorem v6 {x:V} {u t:Ab} (I:Inv X pins σ H s) (rx:qL x u) (ty:TyOf X.K H x t) (e:PySem.W.kitOne X.K t c=some b) (h:∀ tk,Q (.bool b) {s with toks:=tk}):
  wpAny (model X.prog X.w) A (call (.builtin "isinstance") [u,c]) Q E s:=by
 cases ty with
 | non=>cases (show u=Value.none from rx);exact Cj PySem.W.kitx_none I.kIn True.intro e (fun z=>nomatch z) h
 | bl y=>cases (show u=Value.bool y from rx);exact Cj PySem.W.kitx_bool I.kIn True.intro e (fun z=>nomatch z) h
 | int i=>obtain ⟨t,q⟩:=(show ∃ t,u=Value.int i t from rx);cases q;exact Cj PySem.W.kitx_int I.kIn True.intro e (fun z=>nomatch z) h
 | str y=>obtain ⟨t,q⟩:=(show ∃ t,u=Value.str y t from rx);cases q;exact Cj PySem.W.kitx_str I.kIn True.intro e (fun z=>nomatch z) h
 | flt y=>obtain ⟨t,q⟩:=(show ∃ t,u=Value.float y t from rx);cases q;exact Cj PySem.W.kitx_float I.kIn True.intro e (fun z=>nomatch z) h
 | @lst a xs ea=>
  cases (show u=Value.ref a from rx);obtain ⟨_,_,n,_,h1⟩:=(show zq X.prog X.w H s.heap a (.lst xs) from I.hok a _ ea);exact Cj PySem.W.kitx_list I.kIn ⟨_,h1,rfl⟩ e (fun z=>nomatch z) h
 | @frz a ob xs ea=>
  cases (show u=Value.ref a from rx);obtain ⟨_,_,_,n,_,h1⟩:=(show zq X.prog X.w H s.heap a (.frz ob (.lst xs)) from I.hok a _ ea);exact Cj PySem.W.kitx_list I.kIn ⟨_,h1,rfl⟩ e (fun z=>nomatch z) h
 | @tup a xs ea=>
  cases (show u=Value.ref a from rx);obtain ⟨_,_,_,p⟩:=(show zq X.prog X.w H s.heap a (.tup xs) from I.hok a _ ea);obtain ⟨o,h1,h2,_⟩:=p;exact Cj PySem.W.kitx_tuple I.kIn ⟨o,h1,h2⟩ e (fun z=>nomatch z) h
 | @dK a kvs ea=>
  cases (show u=Value.ref a from rx);obtain ⟨_,_,vs,_,p⟩:=(show zq X.prog X.w H s.heap a (.dK kvs) from I.hok a _ ea);obtain ⟨o,es,ep,h1,h2,_⟩:=p;exact Cj PySem.W.kitx_dict I.kIn ⟨o,h1,h2.1⟩ e (fun z=>nomatch z) h
 | @dT a kvs ea=>
  cases (show u=Value.ref a from rx);obtain ⟨_,_,xs,_,o,es,ep,h1,h2,_⟩:=(show zq X.prog X.w H s.heap a (.dT kvs) from I.hok a _ ea);exact Cj PySem.W.kitx_dict I.kIn ⟨o,h1,h2.1⟩ e (fun z=>nomatch z) h
 | @ins a C dx fs ea cl ha hn htk hm=>
  cases (show u=Value.ref a from rx);obtain ⟨mA,O,_⟩:=Wr I.hok ea;obtain ⟨od,J,_⟩:=O.look;exact Cj (PySem.W.kitx_own (cl.get _) cl.hd ha hn htk hm) I.kIn J e (fun z=>nomatch z) h
end
structure Room (k:Nat) (A:Around):Prop where
 hd:A.handled=none
 dp:A.depth+3*k+5<recursionLimit
 un:A.units+16*k+200<cLine
theorem Room.mono {j k:Nat} {A:Around} (r:Room k A) (h:j≤k):Room j A:=⟨r.hd,by have:=r.dp;omega,by have:=r.un;omega⟩
theorem Room.deeper {k:Nat} {A:Around} (r:Room (k+1) A) (env:Env):Room k (A.deeper env):=
 ⟨r.hd,by have:=r.dp;show A.depth+1+3*k+5<_;omega,by have:=r.un;show A.units+3+16*k+200<_;omega⟩
theorem QI {A:Around} {C:Ac} {us:List Ab} {kw:List (Str×Ab)}:(A.under (.builtin "type.__call__" ⟨.ref C::us,kw⟩)).depth=A.depth+1:=by
 first | rfl | simp [Around.under,Code.weight,Code.isCreation,Code.isGuard,Code.isCaller,Code.frames,Code.isFrame,guardIds]
theorem QH {A:Around} {C:Ac} {us:List Ab} {kw:List (Str×Ab)}:(A.under (.builtin "type.__call__" ⟨.ref C::us,kw⟩)).units=A.units+1:=by
 first | rfl | simp [Around.under,Code.cUnits,Code.frames,Code.isFrame]
theorem Room.make {k:Nat} {A:Around} (r:Room (k+1) A) (C:Ac) (us:List Ab) (kw:List (Str×Ab)):Room k (A.under (.builtin "type.__call__" ⟨.ref C::us,kw⟩)):=
 ⟨r.hd,by have:=r.dp;rw [QI];omega,by have:=r.un;rw [QH];omega⟩
theorem Room.depth {k:Nat} {A:Around} (r:Room k A):A.depth<recursionLimit:=by have:=r.dp;omega
theorem Room.units {k:Nat} {A:Around} (r:Room k A):A.units+64<cLine:=by have:=r.un;omega
def qx:TA:=fun _ H Q=>Q [] H
def qe (ta:TE) (tr:TA):TA:=fun σ H Q=>ta σ H fun x H1=>tr σ H1 fun xs H2=>Q (x::xs) H2
section
variable {X:Cx} {e:Expr} {es:List Expr} {te:TE} {t:TA} {pos:Pos}
theorem qb:PA X [] qx:=fun _ _ _ _ H Q I h=>Calls.spliced_nil ⟨[],H,I,.nil,h⟩
theorem qa (ha:PE X e te) (hr:PA X es t) (hs:starEach (e::es) X.env=(false,eval e X.env)::starEach es X.env:=by rfl):PA X (e::es) (qe te t):=by
 intro pos pins s σ H Q I h;rw [hs];show wpAny _ _ (spliced ((false,eval e X.env)::backTo pos (starEach es X.env))) _ _ s;refine Calls.spliced_cons (thn (ha pins s σ H _ I h) fun u s1 ⟨x,H1,I1,r1,q1⟩=>?_);exact thn (hr pos pins s1 σ H1 _ I1 q1) fun us s2 ⟨xs,H2,I2,r2,q2⟩=>⟨x::xs,H2,I2,.cons r1 r2,q2⟩
def Jm (t:TA):TE:=fun σ H Q=>t σ H fun xs H1=>xs.length≤Af∧∀ p,H1 p=none→Q (.ref p) (upd H1 p (.tup xs))
def jz (t:TA):TE:=fun σ H Q=>t σ H fun xs H1=>xs.length≤Af∧∀ p,H1 p=none→Q (.ref p) (upd H1 p (.lst xs))
theorem qB {x1} (h:PA X es t):PE X (.Tuple es x1 pos) (Jm t):=by
 intro pins s σ H Q I hq;refine wpAny_Tuple_spliced (thn (h pos pins s σ H _ I hq) fun us s1 ⟨xs,H1,I1,r,z,q⟩=>⟨by rw [← r.length];exact z,?_⟩)
 have hf:H1 s1.heap.objs.size=none:=I1.hok.fresh (Ax _);refine ⟨.ref s1.heap.objs.size,upd H1 s1.heap.objs.size (.tup xs),I1.laid (t':=s1.toks) (fun b u e=>Av _ e) (Ax _) ?_,rfl,q _ hf⟩;exact ⟨z,us,r,⟨_,Bh _ rfl,rfl,_,rfl⟩⟩
theorem qJ (h:PA X es t):PE X (.List es pos) (jz t):=by
 intro pins s σ H Q I hq;refine wpAny_List_spliced (thn (h pos pins s σ H _ I hq) fun us s1 ⟨xs,H1,I1,r,z,q⟩=>⟨by rw [← r.length];exact z,?_⟩)
 have hf:H1 s1.heap.objs.size=none:=I1.hok.fresh (Ax _);refine ⟨.ref s1.heap.objs.size,upd H1 s1.heap.objs.size (.lst xs),I1.laid (t':=s1.toks) (fun b u e=>Av _ e) (Ax _) ?_,rfl,q _ hf⟩;exact ⟨z,us,0,r,Bh _ rfl⟩
end
abbrev Sp:=List V→Hp→VK→XK→Prop
abbrev CXT:=List Env→Hp→Ae→XK→Ab→Ae→Prop
structure Env0 (P:Program) (w:World) (K:Frag) (mg:Str→Option Ab) (base:Heap) (A:Around) (outer:List Env) (s:Ae) (H:Hp):Prop where
 frames:A.frames=some outer
 mod:Mod K mg base
 bs:∀ b o,base.get? b=some o→s.heap.get? b=some o∧H b=none
 bsz:base.objs.size≤s.heap.objs.size
 funs:s.heap.FunFrames base outer
 frf:∀ b∈frs outer,H b=none
 hok:HOk P w H s.heap
 bare:AllBare s.gens
def CE (outer:List Env) (P:Program) (w:World) (H:Hp) (s:Ae) (Q:VK) (u:Ab) (s':Ae):Prop:=
 ∃ v H',s'.os=s.os∧AllBare s'.gens∧Un (frs outer) [] H H' s.heap s'.heap∧HOk P w H' s'.heap∧qL v u∧Q v H'
def CR (CX:CXT) (outer:List Env) (P:Program) (w:World) (H:Hp) (s:Ae) (Q:VK) (E:XK) (r:Result) (s':Ae):Prop:=
 match r with
 | .ok (.ret u)=>CE outer P w H s Q u s'
 | .ok _=>False
 | .error e=>CX outer H s E e s'
structure FnOk (P:Program) (w:World) (K:Frag) (mg:Str→Option Ab) (base:Heap) (CX:CXT) (k:Nat) (f:Ac) (fd:FuncData) (ps:List Str) (sp:Sp):Prop where
 len:∀ vs H Q E,sp vs H Q E→vs.length=ps.length
 run:∀ (A:Around) (outer:List Env) (s:Ae) (H:Hp) (args:Args) (us:List Ab) (vs:List V) (Q:VK) (E:XK),Room k A→Env0 P w K mg base A outer s H→BindsTo s fd args (ps.zip us)→qH vs us→sp vs H Q E→
  codeAny (model P w) A (.call (.ref f) args) (CR CX outer P w H s Q E) s
theorem FnOk.mono {P:Program} {w:World} {K:Frag} {mg:Str→Option Ab} {base:Heap} {CX:CXT} {j k:Nat} {f:Ac} {fd:FuncData} {ps:List Str} {sp:Sp} (F:FnOk P w K mg base CX j f fd ps sp) (h:j≤k):
  FnOk P w K mg base CX k f fd ps sp:=⟨F.len,fun A outer s H args us vs Q E hr=>F.run A outer s H args us vs Q E (hr.mono h)⟩
theorem Env0.make {P:Program} {w:World} {K:Frag} {mg:Str→Option Ab} {base:Heap} {A:Around} {outer:List Env} {s:Ae} {H:Hp} (e:Env0 P w K mg base A outer s H) (C:Ac) (us:List Ab) (kw:List (Str×Ab)):
  Env0 P w K mg base (A.under (.builtin "type.__call__" ⟨.ref C::us,kw⟩)) outer s H:=⟨by first | exact e.frames | (simpa [Around.under,Code.envs,Code.isFrame,pushEnvs] using e.frames),e.mod,e.bs,e.bsz,e.funs,e.frf,e.hok,e.bare⟩
section
variable {X:Cx} {pins:List (Ac×Obj)} {σ:St} {H:Hp} {s s':Ae}
theorem Inv.env0 (I:Inv X pins σ H s):Env0 X.prog X.w X.K X.mg X.base X.A X.stack s H:=
 ⟨I.ok.frames,I.ok.mod,I.bs,Aw I.ok.bsz I.sz,I.stack,I.stkFree,I.hok,I.bare⟩
theorem Inv.after {Q:VK} {u:Ab} (I:Inv X pins σ H s) (h:CE X.stack X.prog X.w H s Q u s'):EP X pins σ Q u s':=by
 obtain ⟨v,H',os,bare,un,hok,r,q⟩:=h;obtain ⟨hh,g,d,t,os'⟩:=s';obtain rfl:os'=s.os:=os;exact ⟨v,H',I.call (h':=hh) (g':=g) (d':=d) (t':=t) (ch:=[]) un hok bare (fun b z=>absurd z (by simp)),r,q⟩
end
def qI (sp:Sp) (dvs:List V) (E:XK) (t:TA):TE:=fun σ H Q=>t σ H fun vs H1=>sp (vs++dvs) H1 Q E
def Q7 (C:Ac) (m:Str) (sp:Sp) (dvs:List V) (E:XK) (ta:TE) (t:TA):TE:=fun σ H Q=>ta σ H fun x H1=>∃ a dx fs,x= .ref a∧H1 a=some (.ins C dx fs)∧fs.lookup m=none∧
 t σ H1 fun vs H2=>sp (x::(vs++dvs)) H2 Q E
def Q8 (C:Ac) (sp:Sp) (dvs:List V) (E:XK) (t:TA):TE:=fun σ H Q=>t σ H fun vs H1=>∀ x dx,H1 x=none→H1 dx=none→dx≠x→
 sp (.ref x::(vs++dvs)) (upd (upd H1 dx (.own x)) x (.ins C dx [])) (fun v H2=>v= .non∧Q (.ref x) H2) E
def Jf (K:Frag) (fd:FuncData) (ps:List Str) (ds:List Ab):Prop:=
 ∀ (s:Ae) (us:List Ab),K.In s.heap→(us++ds).length=ps.length→BindsTo s fd ⟨us,[]⟩ (ps.zip (us++ds))
theorem Jf.all {K:Frag} {fd:FuncData} {ps:List Str} (h:∀ us:List Ab,us.length=ps.length→bindArgs fd ⟨us,[]⟩=pure (ps.zip us)):Jf K fd ps []:=fun s us _ hl=>by
 rw [Bi] at hl ⊢;exact .of_eq (h us hl)
def JT (CX:CXT) (X:Cx) (E:XK):Prop:=∀ (pins:List (Ac×Obj)) (σ:St) (H:Hp) (s:Ae) (e:Ab) (s':Ae),Inv X pins σ H s→CX X.stack H s E e s'→X.xe e s'
section
variable {X:Cx} {CX:CXT} {k:Nat} {f C:Ac} {fd:FuncData} {ps:List Str} {sp:Sp} {dvs:List V} {ds:List Ab} {E:XK} {x m:Str} {p pos apos:Pos} {e o:Expr} {es:List Expr} {ta:TE} {t:TA}
theorem qds {pins:List (Ac×Obj)} {σ:St} {H:Hp} {s:Ae} {Q:VK} {us:List Ab} {vs:List V} (F:FnOk X.prog X.w X.K X.mg X.base CX k f fd ps sp) (hr:Room k X.A) (hb:Jf X.K fd ps ds) (hd:qH dvs ds) (hx:JT CX X E)
  (I:Inv X pins σ H s) (r:qH vs us) (h:sp (vs++dvs) H Q E):wpAny (model X.prog X.w) X.A (call (.ref f) us) (EP X pins σ Q) X.xe s:=by
 have r2:qH (vs++dvs) (us++ds):=r.append hd;have hl:(us++ds).length=ps.length:=by rw [← r2.length];exact F.len _ _ _ _ h
 refine wpAny_call (Ep (F.run X.A X.stack s H ⟨us,[]⟩ (us++ds) (vs++dvs) Q E hr I.env0 (hb s us I.kIn hl) r2 h) fun r s' hq=>?_);cases r with
 | error e=>exact hx pins σ H s e s' I hq
 | ok fl=>
  cases fl with
  | ret u=>exact I.after hq
  | next=>exact False.elim hq
  | brk=>exact False.elim hq
  | cont=>exact False.elim hq
theorem qaj (F:FnOk X.prog X.w X.K X.mg X.base CX k f fd ps sp) (hr:Room k X.A) (hg:Gl X x) (hm:X.mg x=some (.ref f)) (hk:PySem.W.keepIn X.K (.ref f)=true) (hb:Jf X.K fd ps ds) (hd:qH dvs ds) (hx:JT CX X E)
  (ha:PA X (e::es) t) (hdb:(x==("__debug__":Str))=false:=by decide) (he:starEach (e::es) X.env=(false,eval e X.env)::starEach es X.env:=by rfl) (hpl:(backTo pos (starEach es X.env)).any (·.1)=false:=by rfl):
  PE X (.Call (.Name x p) (e::es) [] pos) (qI sp dvs E t):=by
 intro pins s σ H Q I h;refine Eu (JJ I hg hm ?_ hdb);refine PySem.W.callWith_K (h₀:=X.base) I.ok.mod.kin hk (thn (ha pos pins s σ H _ I h) fun us s1 ⟨vs,H1,I1,r,q⟩=>⟨I1.kIn,?_⟩) he hpl;exact qds F hr hb hd hx I1 r q
theorem qea {pl:Sem Bool} (he:PE X o ta) (c:Cls X.K C) (hm:Meth X.K C m f) (F:FnOk X.prog X.w X.K X.mg X.base CX k f fd ps sp) (hr:Room k X.A) (hb:Jf X.K fd ps ds) (hd:qH dvs ds) (hx:JT CX X E)
  (ht:eval (.Call (.Attribute o m apos) [] [] pos) X.env=(do
   let ov ← eval o X.env
   standAt apos.atName
   let (f,first) ← holding [ov] (getMethod ov m pl)
   callWith pos f first (backTo pos (starEach [] X.env)) (backToKw pos (keywordEach [] X.env))):=by rfl):
  PE X (.Call (.Attribute o m apos) [] [] pos) (Q7 C m sp dvs E ta qx):=by
 intro pins s σ H Q I h;refine PySem.W.methodCall_KW (pl:=pl) (thn (he pins s σ H _ I h) fun u s1 ⟨x,H1,I1,rx,a,dx,fs,ex,ea,l,q⟩=>?_) ht;subst ex;obtain rfl:u=Value.ref a:=rx;refine QR I1 ea c hm l ?_;exact PySem.W.callWith_K0 (first:=[.ref a]) I1.kIn hm.kp (qds (us:=[.ref a]) (vs:=[.ref a]) F hr hb hd hx I1 (.cons rfl .nil) q)
structure Mk (K:Frag) (C f:Ac):Prop where
 makes:PySem.W.makesIn K C=true
 init:PySem.W.findIn K (.ref C) "__init__"=some (some (.ref f))
 fn:PySem.W.isFn K (.ref f)=true
 kp:PySem.W.keepIn K (.ref C)=true
theorem qdr {pins:List (Ac×Obj)} {σ:St} {H:Hp} {s:Ae} {Q:VK} {us:List Ab} {vs:List V} (M:Mk X.K C f) (F:FnOk X.prog X.w X.K X.mg X.base CX k f fd ps sp) (hr:Room (k+1) X.A) (hb:Jf X.K fd ps ds) (hd:qH dvs ds)
  (hx:JT CX X E) (I:Inv X pins σ H s) (r:qH vs us)
  (h:∀ x dx,H x=none→H dx=none→dx≠x→sp (.ref x::(vs++dvs)) (upd (upd H dx (.own x)) x (.ins C dx [])) (fun v H2=>v= .non∧Q (.ref x) H2) E):
  wpAny (model X.prog X.w) X.A (call (.ref C) us) (EP X pins σ Q) X.xe s:=by
 have hq:=h (s.heap.objs.size+1) s.heap.objs.size (I.hok.fresh (Ex _)) (I.hok.fresh (Ax _)) (Bu (Eg _));have I2:=Inv.made (C:=C) I;have r2:qH (V.ref (s.heap.objs.size+1)::(vs++dvs)) (Value.ref (s.heap.objs.size+1)::(us++ds)):= .cons rfl (r.append hd);have hl:(Value.ref (s.heap.objs.size+1)::us++ds).length=ps.length:=by
  have e:=r2.length;rw [F.len _ _ _ _ hq] at e;exact e.symm
 refine wpAny_call (qet (f:=f) I.kIn M.makes M.init (Az.mp M.fn) (Ep (F.run _ X.stack _ _ ⟨Value.ref (s.heap.objs.size+1)::us,[]⟩ (Value.ref (s.heap.objs.size+1)::(us++ds)) _ _ E (hr.make C us [])
  (I2.env0.make C us []) (hb _ (Value.ref (s.heap.objs.size+1)::us) I2.kIn hl) r2 hq) fun r s' hq'=>?_))
 cases r with
 | error e=>exact hx pins σ _ _ e s' I2 hq'
 | ok fl=>
  cases fl with
  | ret u=>
   obtain ⟨v,H',I3,rv,ev,q3⟩:=I2.after hq';subst ev;exact ⟨rv,⟨V.ref (s.heap.objs.size+1),H',I3,rfl,q3⟩⟩
  | next=>exact False.elim hq'
  | brk=>exact False.elim hq'
  | cont=>exact False.elim hq'
theorem qgy (M:Mk X.K C f) (F:FnOk X.prog X.w X.K X.mg X.base CX k f fd ps sp) (hr:Room (k+1) X.A) (hg:Gl X x) (hm:X.mg x=some (.ref C)) (hb:Jf X.K fd ps ds) (hd:qH dvs ds) (hx:JT CX X E)
  (ha:PA X (e::es) t) (hdb:(x==("__debug__":Str))=false:=by decide) (he:starEach (e::es) X.env=(false,eval e X.env)::starEach es X.env:=by rfl) (hpl:(backTo pos (starEach es X.env)).any (·.1)=false:=by rfl):
  PE X (.Call (.Name x p) (e::es) [] pos) (Q8 C sp dvs E t):=by
 intro pins s σ H Q I h;refine Eu (JJ I hg hm ?_ hdb);refine PySem.W.callWith_K (h₀:=X.base) I.ok.mod.kin M.kp (thn (ha pos pins s σ H _ I h) fun us s1 ⟨vs,H1,I1,r,q⟩=>⟨I1.kIn,?_⟩) he hpl;exact qdr M F hr hb hd hx I1 r q
end
section
variable {X:Cx} {CX:CXT} {k:Nat} {f C:Ac} {fd:FuncData} {ps ks:List Str} {sp:Sp} {E:XK} {x m:Str} {p pos apos kpos:Pos} {e o:Expr} {es:List Expr} {kws:List Keyword} {te ta:TE} {t tk:TA} {nm:Option Str}
variable {g:List Ab→List Ab→List Ab} {gV:List V→List V→List V}
end
structure FnScope (N P:List Str) (sc:Scope):Prop where
 kind:sc.kind= .function
 co:sc.isCoroutine=false
 gen:sc.isGenerator=false
 nd:N.Nodup
 pre:N.take P.length=P
 par:∀ x∈P,sc.names.lookup x=some .local∨sc.names.lookup x=some .cell
 nofree:∀ y∈sc.names,y.2≠ .free
theorem YY {kindOf:Str→Option NameKind} {x:Str}:∀ {binds:List (Str×Ab)} {m:Str→Option Ab},(∀ v,(x,v)∉binds)→bindL kindOf binds m x=m x
 | [],_,_=>rfl
 | (n,v)::r,m,h=>by
  unfold bindL;rw [YY fun w hw=>h w (Ao _ hw)];split
  ·have:x≠n:=by rintro rfl;exact h v Au
   simp [this]
  ·rfl
theorem Y1 {kindOf:Str→Option NameKind} {x:Str}:∀ {binds:List (Str×Ab)} {m:Str→Option Ab},(∀ v,(x,v)∉binds)→bindC kindOf binds m x=m x
 | [],_,_=>rfl
 | (n,v)::r,m,h=>by
  unfold bindC;rw [Y1 fun w hw=>h w (Ao _ hw)];split
  ·rfl
  ·have:x≠n:=by rintro rfl;exact h v Au
   simp [this]
theorem YZ {kindOf:Str→Option NameKind} {x:Str} {v:Ab}:∀ {P:List Str} {vs:List Ab} {i:Nat} {m:Str→Option Ab},P.Nodup→P[i]?=some x→vs[i]?=some v→kindOf x=some .local→
  bindL kindOf (P.zip vs) m x=some v
 | [],_,_,_,_,h,_,_=>by simp at h
 | _::_,[],_,_,_,_,h,_=>by simp at h
 | p::P,w::vs,0,m,nd,h1,h2,hk=>by
  simp at h1 h2;subst h1;subst h2;show bindL kindOf ((p,w)::P.zip vs) m p=_;unfold bindL;rw [YY fun v hv=>(Cr.mp nd).1 (C0 hv).1,if_pos hk];simp
 | p::P,w::vs,i+1,m,nd,h1,h2,hk=>by
  show bindL kindOf ((p,w)::P.zip vs) m x=_;unfold bindL;exact YZ (i:=i) (Cr.mp nd).2 (by simpa using h1) (by simpa using h2) hk
theorem Y2 {kindOf:Str→Option NameKind} {x:Str} {v:Ab}:∀ {P:List Str} {vs:List Ab} {i:Nat} {m:Str→Option Ab},P.Nodup→P[i]?=some x→vs[i]?=some v→kindOf x≠some .local→
  bindC kindOf (P.zip vs) m x=some v
 | [],_,_,_,_,h,_,_=>by simp at h
 | _::_,[],_,_,_,_,h,_=>by simp at h
 | p::P,w::vs,0,m,nd,h1,h2,hk=>by
  simp at h1 h2;subst h1;subst h2;show bindC kindOf ((p,w)::P.zip vs) m p=_;unfold bindC;rw [Y1 fun v hv=>(Cr.mp nd).1 (C0 hv).1,if_neg hk];simp
 | p::P,w::vs,i+1,m,nd,h1,h2,hk=>by
  show bindC kindOf ((p,w)::P.zip vs) m x=_;unfold bindC;exact Y2 (i:=i) (Cr.mp nd).2 (by simpa using h1) (by simpa using h2) hk
def start (N:List Str) (vs:List V):St:=vs.map some++List.replicate (N.length - vs.length) none
def Wb (CX:CXT) (P:Program) (w:World) (K:Frag) (mg:Str→Option Ab) (base:Heap) (N:List Str) (qual:Str) (scope:Scope) (f:Ac) (cd:Ab) (A:Around) (outer:List Env) (s:Ae) (H:Hp) (E:XK):Cx where
 prog:=P
 w:=w
 K:=K
 mg:=mg
 base:=base
 A:=A.deeper (envOfC qual scope s.heap.objs.size f cd)
 N:=N
 s₀:=s
 H₀:=H
 env:=envOfC qual scope s.heap.objs.size f cd
 outer:=outer
 stack:=envOfC qual scope s.heap.objs.size f cd::outer
 ex:=[]
 calm:=true
 fn:=fun _=>true
 pn:=[]
 xe:=fun e s'=>wpAny (model P w) (A.deeper (envOfC qual scope s.heap.objs.size f cd)) (leaving (envOfC qual scope s.heap.objs.size f cd) e) (fun _ s''=>CX outer H s E e s'') (fun e' s''=>CX outer H s E e' s'') s'
theorem ZS {sc:Scope} {n:Nat} {x:Str} (h:sc.names.lookup x=some .cell):∃ c,(cellsFrom n sc.names []).lookup x=some c:=by
 have q:=PySem.W.cellsFrom_some sc.names n [] (.inl h);exact Cz.mp q
theorem YK {CX:CXT} {P:Program} {w:World} {K:Frag} {mg:Str→Option Ab} {base:Heap} {N ps:List Str} {qual:Str} {scope:Scope} {f:Ac} {cd:Ab} {A:Around} {outer:List Env} {s s1:Ae} {H:Hp} {E:XK} {us:List Ab} {vs:List V}
  (S:FnScope N ps scope) (hd:A.handled=none) (e0:Env0 P w K mg base A outer s H) (hl:vs.length=ps.length) (r:qH vs us)
  (x:InCallC s s.heap.objs.size (bindL (envOfC qual scope s.heap.objs.size f cd).kindOf (ps.zip us) fun _=>none) (cellsFrom (s.heap.objs.size+1) scope.names []) (bindC (envOfC qual scope s.heap.objs.size f cd).kindOf (ps.zip us) fun _=>none) s1):
  Inv (Wb CX P w K mg base N qual scope f cd A outer s H E) [] (start N vs) H s1:=by
 have hpl:ps.length≤N.length:=by have:=congrArg List.length S.pre;rw [B4] at this;omega
 obtain ⟨h1,tk,rfl,hk⟩:=x.done;have noA:∀ b:Ac,b∉(Wb CX P w K mg base N qual scope f cd A outer s H E).ex:=fun b z=>absurd (show b∈([]:List Ac) from z) (by simp)
 refine ⟨⟨e0.mod,S.kind,rfl,rfl,Ax _,fun y z c h1 h2=>?_,fun y hy=>?_,fun y c _ h=>?_,fun _=>hd,Around.frames_deeper e0.frames,.inr ⟨rfl,rfl⟩,fun b z=>absurd z (noA b),e0.bs,e0.bsz,fun b _ _=>noA b,fun b z=>absurd z (noA b),e0.funs,e0.frf⟩,
  rfl,e0.bare,Un.kept hk,⟨_,x.toInCall.ns,fun i y v h1 h2 h3=>?_⟩,fun y c h=>⟨_,x.cell y c h⟩,e0.hok.fresh (Ax _),fun y c h=>?_,fun p hp=>absurd (show p∈([]:List (Ac×Obj)) from hp) (by simp),e0.hok.kept hk,?_⟩
 ·exact name_of_addr x.apart (A5 h1) (A5 h2)
 ·have hy:scope.names.lookup y=some .cell∨scope.names.lookup y=some .free:=hy;rcases hy with hy | hy
  ·exact ZS hy
  ·exact absurd rfl (S.nofree _ (A5 hy))
 ·exact Nat.le_of_lt (x.above y c (A5 h))
 ·have hi:i<vs.length:=by
   unfold start at h2
   by_cases hi:i<vs.length
   ·exact hi
   ·rw [List.getElem?_append_right (by simpa using hi)] at h2
    rw [List.getElem?_replicate] at h2;split at h2 <;> cases h2
  have ha:vs[i]?=some v:=by
   unfold start at h2;rw [List.getElem?_append_left (by simpa using hi),Bq] at h2
   cases e:vs[i]? with
   | none=>rw [e] at h2;cases h2
   | some a=>rw [e] at h2;cases h2;rfl
  obtain ⟨u,hu,rv⟩:=r.get ha;have hp:ps[i]?=some y:=by
   rw [← S.pre,List.getElem?_take_of_lt ⋯];exact h1
  have ndP:ps.Nodup:=by rw [← S.pre];exact S.nd.sublist (List.take_sublist _ _)
  refine ⟨u,rv,?_⟩;rcases S.par y (Bx hp) with k | k
  ·exact .inl ⟨k,YZ ndP hp hu k⟩
  ·obtain ⟨c,e⟩:=ZS (n:=s.heap.objs.size+1) k;refine .inr ⟨.inl k,c,e,?_⟩;have q:=x.cell y c e;rw [Y2 ndP hp hu (by show scope.names.lookup y≠_;rw [k];decide)] at q
   exact q
 ·exact e0.hok.fresh (Nat.le_of_lt (x.above y c (A5 h)))
 ·unfold start;show _=N.length;rw [Ak,Ah,List.length_replicate];omega
theorem qia {CX:CXT} {P:Program} {w:World} {K:Frag} {mg:Str→Option Ab} {base:Heap} {k:Nat} {f:Ac} {name qual:Str} {params:Arguments} {body:List Stmt} {scope:Scope} {dV kV doc pm cdv ct oc:Ab} {an od:Option Ac}
  {osl:Array (Option Ab)} {N ps:List Str} {sp:Sp} (lk:K.lookup f=some ⟨oc,od,.func (PySem.W.fnOf name qual params body scope dV kV doc pm an cdv ct),osl⟩) (hcd:PySem.W.codeIn K cdv qual=true) (S:FnScope N ps scope)
  (len:∀ vs H Q E,sp vs H Q E→vs.length=ps.length)
  (hbody:∀ (A:Around) (outer:List Env) (s:Ae) (H:Hp) (vs:List V) (Q:VK) (E:XK),Room k (A.deeper (envOfC qual scope s.heap.objs.size f cdv))→sp vs H Q E→
   ∃ t,PSs (Wb CX P w K mg base N qual scope f cdv A outer s H E) body t∧t {nx:=fun _ H'=>Q .non H',rt:=Q} (start N vs) H):
  FnOk P w K mg base CX (k+1) f (PySem.W.fnOf name qual params body scope dV kV doc pm an cdv ct) ps sp:=by
 refine ⟨len,fun A outer s H args us vs Q E hr e0 hb r hsp=>?_⟩;have hl:=len _ _ _ _ hsp;have KX:K.In s.heap:=e0.mod.kin.keeps fun b o e=>(e0.bs b o e).1;have lim:s.heap.NoLimit:=e0.mod.nolimit.keeps fun b o e=>(e0.bs b o e).1;have hkind:∀ y∈ps.zip us,scope.names.lookup y.1=some .local∨(scope.names.lookup y.1=some .cell∧((cellsFrom (s.heap.objs.size+1) scope.names []).lookup y.1).isSome=true):=fun ⟨n,v⟩ hy=>by
  rcases S.par n (C0 hy).1 with q | q
  ·exact .inl q
  ·exact .inr ⟨q,PySem.W.cellsFrom_some _ _ _ (.inl q)⟩
 refine codeAny_call_function hr.depth (KX _ _ lk) rfl S.co S.gen rfl (PySem.W.codeRec_of KX hcd) (hb _ _ _ _ ?_);refine wpAny_newFunctionEnv_cells S.kind hkind fun env he s1 x=>?_;subst he;refine ⟨lim.keeps x.toInCall.keep,codeAny_func ?_⟩;obtain ⟨t,ht,hq⟩:=hbody A outer s H vs Q E (hr.deeper _) hsp;have I:Inv (Wb CX P w K mg base N qual scope f cdv A outer s H E) [] (start N vs) H s1:=YK S hr.hd e0 hl r x;refine C9 (ht [] s1 (start N vs) H _ I hq) (fun fl s' hs=>?_) fun e s' hs=>hs;have fin:∀ {σ':St} {H':Hp} {v:V} {u:Ab},Inv (Wb CX P w K mg base N qual scope f cdv A outer s H E) [] σ' H' s'→qL v u→Q v H'→CE outer P w H s Q u s':=
  fun {σ' H' v u} J rv q=>⟨v,H',J.os,J.bare,J.base,J.hok,rv,q⟩
 cases fl with
 | ret u=>
  obtain ⟨v,σ',H',J,rv,q⟩:=hs;exact fin J rv q
 | next=>
  obtain ⟨σ',H',J,q⟩:=hs;exact fin (v:=V.non) (u:=Value.none) J rfl q
 | brk=>
  obtain ⟨_,_,_,q⟩:=hs;exact False.elim q
 | cont=>
  obtain ⟨_,_,_,q⟩:=hs;exact False.elim q
section
variable {X:Cx} {x:Str} {p pos:Pos} {e:Expr} {es:List Expr} {t:TA} {id T:String} {r:List V→Hp→VK→Prop}
def tCB (r:List V→Hp→VK→Prop) (t:TA):TE:=fun σ H Q=>t σ H fun vs H1=>r vs H1 Q
theorem qz (hc:Je X (.builtin id) r) (hg:Gl X x) (hm:X.mg x=none) (hv:bootBuiltins x=some (.builtin id)) (ha:PA X (e::es) t) (hn:x≠"__name__":=by decide) (hdb:(x==("__debug__":Str))=false:=by decide)
  (he:starEach (e::es) X.env=(false,eval e X.env)::starEach es X.env:=by rfl) (hpl:(backTo pos (starEach es X.env)).any (·.1)=false:=by rfl):PE X (.Call (.Name x p) (e::es) [] pos) (tCB r t):=by
 intro pins s σ H Q I h;refine Eu (yd I hg hm hv ?_ hn hdb);exact PyProof.Rows.callWith_builtin1 (thn (ha pos pins s σ H _ I h) fun us s1 ⟨vs,H1,I1,r1,q1⟩=>hc pins s1 σ H1 vs us Q I1 r1 q1) he hpl
theorem qM (hc:Je X (.type T) r) (hg:Gl X x) (hm:X.mg x=none) (hv:bootBuiltins x=some (.type T)) (ha:PA X (e::es) t) (hn:x≠"__name__":=by decide) (hdb:(x==("__debug__":Str))=false:=by decide)
  (he:starEach (e::es) X.env=(false,eval e X.env)::starEach es X.env:=by rfl) (hpl:(backTo pos (starEach es X.env)).any (·.1)=false:=by rfl):PE X (.Call (.Name x p) (e::es) [] pos) (tCB r t):=by
 intro pins s σ H Q I h;refine Eu (yd I hg hm hv ?_ hn hdb);exact PyProof.Rows.callWith_type1 (thn (ha pos pins s σ H _ I h) fun us s1 ⟨vs,H1,I1,r1,q1⟩=>hc pins s1 σ H1 vs us Q I1 r1 q1) he hpl
end
end L2
namespace HT
open PySem PyProof.Rows
section
open PySem.SeqAt
open PySem.AutoSeq1 (wpAny_loadPart')
open PySem.MeetsSeq PySem.MeetsSeq2 PySem.MeetsSeq3
end
section
variable {prog:Program} {w:World} {A:Around} {E:Ab→Ae→Prop} {s:Ae}
theorem cat_tup {t b:Ac} {vs ws:List Ab} {Q:Ab→Ae→Prop} (ht:IsTup s.heap t vs.toArray) (hb:IsTup s.heap b ws.toArray) (hv:vs≠[])
  (h1:ws=[]→Q (.ref t) s) (h2:ws≠[]→Q (.ref s.heap.objs.size) {s with heap:=s.heap.push {cls:= .type "tuple",data:= .seq (vs++ws).toArray}})
  (hsz:vs.length+ws.length≤Af):wpAny (model prog w) A (binaryOp .Add (.ref t) (.ref b)) Q E s:=by
 obtain ⟨⟨cls,dd,data,sl⟩,ho,hc,n,hd⟩:=id ht;obtain ⟨⟨cls2,dd2,data2,sl2⟩,ho2,hc2,n2,hd2⟩:=id hb;simp only at hc hd hc2 hd2;subst hc hd hc2 hd2;have e:vs.toArray++ws.toArray=(vs++ws).toArray:=by simp
 by_cases hw:ws=[]
 ·exact concat_meets ⟨_,ho,rfl⟩ ⟨_,ho2,rfl⟩ noFill_tuple_add seq_tuple_add PySem.F.slot_tuple_add PySem.F.entry_tuple_add (PySem.F.args_tuple_add_2 _ _)
   (tuple_addW1 t b vs.toArray ws.toArray n n2 dd dd2 sl sl2 (by simpa using hv) (by simp [hw])) ⟨ho,ho2,h1 hw⟩
 ·refine concat_meets ⟨_,ho,rfl⟩ ⟨_,ho2,rfl⟩ noFill_tuple_add seq_tuple_add PySem.F.slot_tuple_add PySem.F.entry_tuple_add (PySem.F.args_tuple_add_2 _ _)
   (tuple_addW2 t b vs.toArray ws.toArray n n2 dd dd2 sl sl2 (by simpa using hv) (by simpa using hw) (by rw [A6,A6];exact hsz)) ⟨ho,ho2,?_⟩
  rw [e];exact h2 hw
def sIx (n d:Nat):Option Int→Nat
 | none=>d
 | some v=>if v<0 then (v+(n:Int)).toNat else min v.toNat n
theorem sIx_none (n d:Nat):sIx n d none=d:=rfl
theorem sIx_nat (n d k:Nat):sIx n d (some (k:Int))=min k n:=by
 show (if (k:Int)<0 then ((k:Int)+(n:Int)).toNat else min (k:Int).toNat n)=min k n
 rw [if_neg ⋯,Int.toNat_natCast]
theorem qis (n d:Nat) (hd:d≤n) (o:Option Int):sIx n d o≤n:=by
 cases o with
 | none=>exact hd
 | some v=>
  show (if v<0 then (v+(n:Int)).toNat else min v.toNat n)≤n
  by_cases hv:v<0
  ·rw [if_pos hv];omega
  ·rw [if_neg hv];exact Nat.min_le_right _ _
theorem qa2 (v:Int) (n d:Nat):(if v<0 then max (v+(n:Int)) 0 else min v (n:Int))=((sIx n d (some v):Nat):Int):=by
 show (if v<0 then max (v+(n:Int)) 0 else min v (n:Int))=(((if v<0 then (v+(n:Int)).toNat else min v.toNat n):Nat):Int)
 by_cases hv:v<0
 ·simp only [if_pos hv];omega
 ·simp only [if_neg hv];omega
theorem QZ (lo hi:Option Int) (n:Nat):Builtin.Slice.sliceAdjust lo hi 1 (n:Int)=(((sIx n 0 lo:Nat):Int),((sIx n n hi:Nat):Int)):=by
 have h1:¬ ((1:Int)<0):=⋯;unfold Builtin.Slice.sliceAdjust;simp only [h1,if_false];refine Prod.ext ?_ ?_
 ·cases lo with
  | none=>rfl
  | some v=>exact qa2 v n 0
 ·cases hi with
  | none=>rfl
  | some v=>exact qa2 v n n
theorem Qp (i j:Nat):Builtin.Slice.slicePlaces (i:Int) (j:Int) 1=j - i:=by
 unfold Builtin.Slice.slicePlaces;have h1:(1:Int)>0:=⋯;simp only [h1,if_true,Int.ediv_one];split <;> omega
theorem WN {v:Ab} {o:Option Int} {Q:Option Int→Ae→Prop} (p:IsPart v o) (h:Q o s):wpAny (model prog w) A (Builtin.Slice.slicePartIndex v) Q E s:=by
 cases p with
 | none=>exact slicePart_none h
 | int i t=>exact slicePart_int h
theorem V6 {sl:Ac} {vl vu:Ab} {lo hi:Option Int} {n:Nat} {Q:Int×Int×Nat→Ae→Prop} (hs:s.heap.IsSliceOf sl vl vu .none) (pl:IsPart vl lo) (pu:IsPart vu hi)
  (h:Q (((sIx n 0 lo:Nat):Int),1,sIx n n hi - sIx n 0 lo) s):wpAny (model prog w) A (Builtin.Slice.sliceApplied (.ref sl) (pure (n:Int))) Q E s:=by
 obtain ⟨os,hos,hcs,hds⟩:=id hs;unfold Builtin.Slice.sliceApplied Builtin.Slice.sliceFields;refine Am (Am (C2 hos hds (x:=vl) rfl (Am (C2 hos hds (x:=vu) rfl (Am (C2 hos hds (x:= .none) rfl (A8 ?_)))))));refine Am (slicePart_none ?_);show wpAny _ _ (if ((1:Int)==0)=true then _ else _) _ _ s
 rw [if_neg O0];refine Am (WN pl (Am (WN pu (Am (A8 ?_)))));show wpAny _ _ (match Builtin.Slice.sliceAdjust lo hi 1 (n:Int) with | (lo,hi)=>pure (lo,(1:Int),Builtin.Slice.slicePlaces lo hi 1)) _ _ s
 rw [QZ lo hi n];show wpAny _ _ (pure (((sIx n 0 lo:Nat):Int),(1:Int),Builtin.Slice.slicePlaces ((sIx n 0 lo:Nat):Int) ((sIx n n hi:Nat):Int) 1)) _ _ s;rw [Qp];exact A8 h
theorem qd8 (xs:Array Ab) (i k:Nat):((List.range k).filterMap fun (m:Nat)=>xs[((i:Int)+(m:Int)*1).toNat]?).toArray=((xs.toList.drop i).take k).toArray:=by
 have e:(fun (m:Nat)=>xs[((i:Int)+(m:Int)*1).toNat]?)=fun m=>xs[i+m]?:=by
  funext m;have:((i:Int)+(m:Int)*1).toNat=i+m:=⋯;rw [this]
 rw [e];have:=pick_run xs i k;rw [List.filterMap_map] at this;have e2:((fun x=>xs[x]?) ∘ fun x=>i+x)=fun m=>xs[i+m]?:=rfl;rw [e2] at this;rw [this]
theorem getItem_tuple_cut {t sl:Ac} {items:Array Ab} {vl vu:Ab} {lo hi:Option Int} {Q:Ab→Ae→Prop} (ht:IsTup s.heap t items) (hs:s.heap.IsSliceOf sl vl vu .none) (pl:IsPart vl lo) (pu:IsPart vu hi)
  (hw:¬ (sIx items.size 0 lo=0∧sIx items.size items.size hi=items.size))
  (h:Q (.ref s.heap.objs.size) {s with heap:=s.heap.push {cls:= .type "tuple",data:= .seq ((items.toList.drop (sIx items.size 0 lo)).take (sIx items.size items.size hi - sIx items.size 0 lo)).toArray}})
  (hsz:items.size≤Af):wpAny (model prog w) A (getItem (.ref t) (.ref sl)) Q E s:=by
 have htake:sizeOk (.seq ((items.toList.drop (sIx items.size 0 lo)).take (sIx items.size items.size hi - sIx items.size 0 lo)).toArray):=by
  show ((items.toList.drop (sIx items.size 0 lo)).take (sIx items.size items.size hi - sIx items.size 0 lo)).toArray.size≤Af;rw [A6,B4,Dy,Bn];omega
 have hj:sIx items.size items.size hi≤items.size:=qis _ _ (Ax _) hi;obtain ⟨os,hos,hcs,hds⟩:=id hs;have hTs:s.TypeIs (.ref sl) "slice":=⟨os,hos,hcs⟩;unfold getItem
 try with_reducible refine Ek ?_
 first | refine Am (A8 ?_) | skip
 refine Am (wpAny_sequenceKey ht.typeIs O0 ?_);refine Am (Df (name:=Str.ofString "__getitem__") ht.typeIs PyProof.Rows.slot_tuple_getitem
  (Eh PyProof.Rows.slot_tuple_getitem ht.typeIs entry_tuple_getitem ?_ (args_tuple_getitem _ _)))
 show wpAny _ _ (Builtin.Tuple.tupleItemsOf (.ref t)>>=_) _ _ s;refine Am (tupleItemsOf_ ht ?_);refine Am (wpAny_typeOf hTs ?_);rw [if_pos O0];refine Am (V6 hs pl pu ?_);have hno:¬ ((((sIx items.size 0 lo:Nat):Int)==0&&(1:Int)==1&&(sIx items.size items.size hi - sIx items.size 0 lo)==items.size)=true):=by
  intro q;rw [Al,Al] at q;have q1:((sIx items.size 0 lo:Nat):Int)=0:=eq_of_beq q.1.1;have q2:sIx items.size items.size hi - sIx items.size 0 lo=items.size:=eq_of_beq q.2;exact hw ⟨⋯,⋯⟩
 show wpAny _ _ (if (((sIx items.size 0 lo:Nat):Int)==0&&(1:Int)==1&&(sIx items.size items.size hi - sIx items.size 0 lo)==items.size)=true then _ else _) _ _ s
 rw [if_neg hno,qd8]
 first
  | exact Am (m:=Builtin.Tuple.tupleExact _) (C8 (A8 ⟨_,rfl,A8 h⟩) htake)
  | exact Am (m:=Builtin.Tuple.tupleExact _) (C8 (Am (A8 (A8 ⟨_,rfl,A8 h⟩))) htake)
  | exact Am (Am (m:=Builtin.Tuple.tupleExact _) (C8 (A8 (A8 ⟨_,rfl,A8 h⟩)) htake))
  | exact Am (Am (m:=Builtin.Tuple.tupleExact _) (C8 (A8 ⟨_,rfl,A8 h⟩) htake))
end
end HT
namespace L2
open PySem PySem.Spec PyProof.Rows
abbrev TO:=St→Hp→(Option Int→Hp→Prop)→Prop
def PO (X:Cx) (e:Option Expr) (t:TO):Prop:=
 ∀ (pins:List (Ac×Obj)) (s:Ae) (σ:St) (H:Hp) (Q:Option Int→Hp→Prop),Inv X pins σ H s→t σ H Q→
  wpAny (model X.prog X.w) X.A (evalPart e X.env) (fun u s'=>∃ o H',Inv X pins σ H' s'∧IsPart u o∧Q o H') X.xe s
def VF:TO:=fun _ H Q=>Q none H
def WJ (t:TE):TO:=fun σ H Q=>t σ H fun x H1=>∃ i,x= .int i∧Q (some i) H1
section
variable {X:Cx} {e:Expr} {te:TE} {lo hi:Option Expr} {tl th:TO} {pos p2:Pos}
theorem jM:PO X none VF:=by
 intro pins s σ H Q I h;rw [evalPart_none];exact A8 ⟨none,H,I,.none,h⟩
theorem ju (h:PE X e te):PO X (some e) (WJ te):=by
 intro pins s σ H Q I hw;rw [evalPart_some];refine thn (h pins s σ H _ I hw) fun u s1 ⟨x,H1,I1,r1,q1⟩=>?_;obtain ⟨i,rfl,q⟩:=q1;obtain ⟨t,rfl⟩:=r1;exact ⟨some i,H1,I1,.int i t,q⟩
def SlR (X:Cx) (r:V→Option Int→Option Int→Hp→VK→Prop):Prop:=
 ∀ (pins:List (Ac×Obj)) (s:Ae) (σ:St) (H:Hp) (x:V) (v vl vu:Ab) (lo hi:Option Int) (sl:Ac) (Q:VK),Inv X pins σ H s→qL x v→s.heap.IsSliceOf sl vl vu .none→IsPart vl lo→IsPart vu hi→r x lo hi H Q→
  ∃ T id,typeLookup (.type T) "__getitem__"=pure (some (.builtin id))∧s.TypeIs v T∧wpAny (model X.prog X.w) X.A (getItem v (.ref sl)) (EP X pins σ Q) X.xe s
theorem SlR.or {r r':V→Option Int→Option Int→Hp→VK→Prop} (h:SlR X r) (h':SlR X r'):SlR X (fun x lo hi H Q=>r x lo hi H Q∨r' x lo hi H Q):=by
 intro pins s σ H x v vl vu lo hi sl Q I rx hs pl pu q;rcases q with q | q
 ·exact h pins s σ H x v vl vu lo hi sl Q I rx hs pl pu q
 ·exact h' pins s σ H x v vl vu lo hi sl Q I rx hs pl pu q
def tSl (r:V→Option Int→Option Int→Hp→VK→Prop) (te:TE) (tl th:TO):TE:=fun σ H Q=>te σ H fun x H1=>tl σ H1 fun l H2=>th σ H2 fun u H3=>r x l u H3 Q
theorem zV {r:V→Option Int→Option Int→Hp→VK→Prop} (hr:SlR X r) (he:PE X e te) (hl:PO X lo tl) (hu:PO X hi th):PE X (.Subscript e (.Slice lo hi none p2) pos) (tSl r te tl th):=by
 intro pins s σ H Q I h;refine Subscript_ (thn (he pins s σ H _ I h) fun v s1 ⟨x,H1,I1,r1,q1⟩=>?_);refine wpAny_Slice (thn (hl pins s1 σ H1 _ I1 q1) fun vl s2 ⟨l,H2,I2,pl,q2⟩=>thn (hu pins s2 σ H2 _ I2 q2) fun vu s3 ⟨u,H3,I3,pu,q3⟩=>?_);rw [evalPart_none];refine A8 ?_;have I4:Inv X pins σ H3 {s3 with heap:=s3.heap.push {cls:= .type "slice",data:= .fields #[vl,vu,.none]}}:=I3.kept (t':=s3.toks) fun b ob q=>Av _ q
 obtain ⟨T,id,hT,ht,hg⟩:=hr pins {s3 with heap:=s3.heap.push {cls:= .type "slice",data:= .fields #[vl,vu,.none]}} σ H3 x v vl vu l u s3.heap.objs.size Q I4 r1 (Heap.IsSliceOf.new ..) pl pu q3
 show wpAny (model X.prog X.w) X.A (subscriptTail e (.Slice lo hi none p2) v (.ref s3.heap.objs.size)) (EP X pins σ Q) X.xe {s3 with heap:=s3.heap.push {cls:= .type "slice",data:= .fields #[vl,vu,.none]}}
 exact tail_any (ops:=[.ref s3.heap.objs.size,v]) ht hT hg (by with_unfolding_all rfl)
def jf (xs:List V) (lo hi:Option Int):List V:=(xs.drop (HT.sIx xs.length 0 lo)).take (HT.sIx xs.length xs.length hi - HT.sIx xs.length 0 lo)
theorem wN (xs:List V) (lo hi:Option Int):(jf xs lo hi).length≤xs.length:=by
 unfold jf;rw [B4,Dy];omega
def qkh (K:Frag):V→Option Int→Option Int→Hp→VK→Prop:=fun x lo hi H Q=>∃ a xs,x= .ref a∧SqT K H a xs∧
 ¬ (HT.sIx xs.length 0 lo=0∧HT.sIx xs.length xs.length hi=xs.length)∧∀ p,H p=none→Q (.ref p) (upd H p (.tup (jf xs lo hi)))
theorem qio:SlR X (qkh X.K):=by
 intro pins s σ H x v vl vu lo hi sl Q I rx hs pl pu h;obtain ⟨a,xs,rfl,hx,hw,q⟩:=h;cases rx;obtain ⟨its,r,ht,hz⟩:=I.tuple hx;have hlen:its.toArray.size=xs.length:=by rw [A6];exact r.length.symm
 refine ⟨"tuple",_,PyProof.Rows.slot_tuple_getitem.lookup,ht.typeIs,?_⟩;refine HT.getItem_tuple_cut ht hs pl pu (by rw [hlen];exact hw) ?_ (by rw [hlen];exact hz)
 rw [hlen];refine ⟨.ref s.heap.objs.size,_,I.laid (t':=s.toks) (o:= .tup (jf xs lo hi)) (fun b ob q=>Av _ q) (Ax _) ?_,rfl,q _ (I.hok.fresh (Ax _))⟩;exact ⟨Aw (wN xs lo hi) hz,_,(r.drop (HT.sIx xs.length 0 lo)).take (HT.sIx xs.length xs.length hi - HT.sIx xs.length 0 lo),IsTup.new _ _⟩
def qh9 (K:Frag):R2:=fun x y H Q=>∃ a b xs ys,x= .ref a∧y= .ref b∧SqT K H a xs∧SqT K H b ys∧xs≠[]∧xs.length+ys.length≤Af∧
 (ys=[]→Q (.ref a) H)∧(ys≠[]→∀ p,H p=none→Q (.ref p) (upd H p (.tup (xs++ys))))
theorem qH.nil_iff {xs:List V} {us:List Ab} (r:qH xs us):us=[]↔xs=[]:=by
 cases r with
 | nil=>simp
 | cons _ _=>simp
theorem qg2:OpR X (binaryOp .Add) (qh9 X.K):=by
 intro pins s σ H x y v u Q I rx ry h;obtain ⟨a,b,xs,ys,rfl,rfl,ha,hb,hx,hz,q1,q2⟩:=h;cases rx;cases ry;obtain ⟨its,r1,p1,_⟩:=I.tuple ha;obtain ⟨its2,r2,p2,_⟩:=I.tuple hb;refine HT.cat_tup p1 p2 (fun z=>hx (r1.nil_iff.mp z)) (fun z=>⟨.ref a,H,I,rfl,q1 (r2.nil_iff.mp z)⟩) (fun z=>?_) (by rw [← r1.length,← r2.length];exact hz)
 refine ⟨.ref s.heap.objs.size,_,I.laid (t':=s.toks) (o:= .tup (xs++ys)) (fun b ob q=>Av _ q) (Ax _) ?_,rfl,q2 (fun w=>z (r2.nil_iff.mpr w)) _ (I.hok.fresh (Ax _))⟩;exact ⟨by rw [Ak];exact hz,_,r1.append r2,IsTup.new _ _⟩
end
def ixN (n:Nat) (i:Int):Option Nat:=if 0≤i then (if i<n then some i.toNat else none) else if -(n:Int)≤i then some (i+n).toNat else none
def atI {α:Type} (xs:List α) (i:Int):Option α:=(ixN xs.length i).bind fun j=>xs[j]?
theorem qas {n:Nat} {i:Int} {j:Nat} (h:ixN n i=some j):seqIndex? i n=some j∧j<n∧ -(n:Int)≤i∧i<n:=by
 unfold ixN at h
 by_cases h0:0≤i
 ·rw [if_pos h0] at h
  by_cases h1:i<n
  ·rw [if_pos h1] at h;have e:i.toNat=j:=Bb h;exact ⟨by rw [seqIndex_of h0 h1,e],⋯,⋯,h1⟩
  ·rw [if_neg h1] at h;cases h
 ·rw [if_neg h0] at h
  by_cases h1: -(n:Int)≤i
  ·rw [if_pos h1] at h;have e:(i+n).toNat=j:=Bb h;exact ⟨by rw [seqIndex_neg ⋯ h1,e],⋯,h1,⋯⟩
  ·rw [if_neg h1] at h;cases h
theorem XN {α:Type} {xs:List α} {i:Int} {v:α} (h:atI xs i=some v):∃ j,seqIndex? i xs.length=some j∧xs[j]?=some v∧j<xs.length∧ -(xs.length:Int)≤i∧i<xs.length:=by
 unfold atI at h;cases e:ixN xs.length i with
 | none=>rw [e] at h;cases h
 | some j=>
  rw [e] at h;obtain ⟨h1,h2,h3,h4⟩:=qas e;exact ⟨j,h1,h,h2,h3,h4⟩
theorem ql {α:Type} {xs:List α} {j:Nat} {v:α} (h:xs[j]?=some v):atI xs (j:Int)=some v:=by
 have hj:j<xs.length:=(Cf.mp h).1;have e:ixN xs.length (j:Int)=some j:=by
  unfold ixN;rw [if_pos ⋯,if_pos ⋯];simp
 unfold atI;rw [e];exact h
theorem yt {α:Type} (xs:List α) (v:α):atI (xs++[v]) (-1)=some v:=by
 have hl:(xs++[v]).length=xs.length+1:=by simp
 have e:ixN (xs++[v]).length (-1)=some xs.length:=by
  unfold ixN;rw [hl,if_neg O0,if_pos ⋯]
  congr 1
  omega
 unfold atI;rw [e];show (xs++[v])[xs.length]?=some v;simp
def qa5 (b:Expr):Prop:=∀ o i,subscripted b false o i=operate [o,i] (getItem o i)
def IxR (X:Cx) (r:R2):Prop:=
 ∀ (value slice:Expr) (pins:List (Ac×Obj)) (s:Ae) (σ:St) (H:Hp) (x y:V) (v u:Ab) (Q:VK),Inv X pins σ H s→qL x v→qL y u→r x y H Q→
  subscripted slice false v u=operate [v,u] (getItem v u)→wpAny (model X.prog X.w) X.A (subscriptTail value slice v u) (EP X pins σ Q) X.xe s
def MtR (X:Cx) (id:String) (r:V→List V→Hp→VK→Prop):Prop:=
 ∀ (pins:List (Ac×Obj)) (s:Ae) (σ:St) (H:Hp) (x:V) (xs:List V) (v:Ab) (us:List Ab) (Q:VK),Inv X pins σ H s→qL x v→qH xs us→r x xs H Q→
  wpAny (model X.prog X.w) X.A (call (.builtin id) (v::us)) (EP X pins σ Q) X.xe s
section
variable {X:Cx} {a b:Expr} {ta tb:TE} {pos:Pos}
theorem IxR.or {r r':R2} (h:IxR X r) (h':IxR X r'):IxR X (fun x y H Q=>r x y H Q∨r' x y H Q):=by
 intro value slice pins s σ H x y v u Q I rx ry q hs;rcases q with q | q
 ·exact h value slice pins s σ H x y v u Q I rx ry q hs
 ·exact h' value slice pins s σ H x y v u Q I rx ry q hs
theorem qkv {r:R2} (hr:IxR X r) (ha:PE X a ta) (hb:PE X b tb) (hs:qa5 b):PE X (.Subscript a b pos) (tOp r ta tb):=by
 intro pins s σ H Q I h;exact Subscript_ (qj2 ha hb I h fun v u s2 x y H2 I2 rx ry q=>hr a b pins s2 σ H2 x y v u Q I2 rx ry q (hs _ _))
def qkp (K:Frag):R2:=fun x y H Q=>∃ p xs i v,x= .ref p∧y= .int i∧SqL K H p xs∧atI xs i=some v∧Q v H
def qkn (K:Frag):R2:=fun x y H Q=>∃ p xs i v,x= .ref p∧y= .int i∧SqT K H p xs∧atI xs i=some v∧Q v H
def qko:R2:=fun x y H Q=>∃ z i c,x= .str z∧y= .int i∧z.length≤Af∧atI z.cps.toList i=some c∧Q (.str ⟨#[c]⟩) H
theorem qhi:IxR X (qkp X.K):=by
 intro value slice pins s σ H x y v u Q I rx ry h hs;obtain ⟨p,xs,i,z,rfl,rfl,hq,he,q⟩:=h;cases rx;obtain ⟨t,rfl⟩:=ry;obtain ⟨its,r,pl,hz⟩:=I.list hq;obtain ⟨j,h1,h2,h3,h4,h5⟩:=XN he;obtain ⟨w,ew,rw'⟩:=r.get h2;have hl:=r.length;have hn:=wk;have fin:EP X pins σ Q w s:=⟨z,H,I,rw',q⟩
 by_cases h0:0≤i
 ·have hj:i.toNat=j:=by
   rw [seqIndex_of h0 h5] at h1;exact Bb h1
  exact item_listR pl.isList h0 ⋯ (by rw [hj];simpa using ew) fin hs
 ·have hj:(i+(its.toArray.size:Int)).toNat=j:=by
   rw [seqIndex_neg ⋯ h4] at h1;rw [A6,← hl];exact Bb h1
  exact subscriptTail_builtinR (x:=w) pl.isList.typeIs slot_list_getitem.lookup
   (wpAny_getItem_list_neg (Q:=fun r s'=>r=w∧EP X pins σ Q r s') pl.isList ⋯ (by rw [A6] <;> omega) ⋯ (by rw [hj];simpa using ew) ⟨rfl,fin⟩) hs
theorem qjm:IxR X (qkn X.K):=by
 intro value slice pins s σ H x y v u Q I rx ry h hs;obtain ⟨p,xs,i,z,rfl,rfl,hq,he,q⟩:=h;cases rx;obtain ⟨t,rfl⟩:=ry;obtain ⟨its,r,pl,hz⟩:=I.tuple hq;obtain ⟨j,h1,h2,h3,h4,h5⟩:=XN he;obtain ⟨w,ew,rw'⟩:=r.get h2;have hl:=r.length;have hn:=wk;have fin:EP X pins σ Q w s:=⟨z,H,I,rw',q⟩;exact subscriptTail_builtinR (x:=w) pl.typeIs slot_tuple_getitem.lookup
  (getItem_tuple (j:=j) (Q:=fun r s'=>r=w∧EP X pins σ Q r s') pl ⋯ ⋯ (by rw [A6,← hl];exact h1) (by simpa using ew) ⟨rfl,fin⟩) hs
theorem qjn:IxR X qko:=by
 intro value slice pins s σ H x y v u Q I rx ry h hs;obtain ⟨z,i,c,rfl,rfl,hz,he,q⟩:=h;obtain ⟨t,rfl⟩:=rx;obtain ⟨t',rfl⟩:=ry;obtain ⟨j,h1,h2,h3,h4,h5⟩:=XN he;have hl:z.cps.toList.length=z.length:=by simp [Str.length]
 rw [hl] at h1 h4 h5;have hn:=wk;exact tail_any (typeIs_str s z t) slot_str_getitem.lookup (getItem_str (c:=c) (by
  have e1:decide (i< -(2 ^ 63:Int))=false:=Ar ⋯;have e2:decide (i ≥ 2 ^ 63)=false:=Ar ⋯;rw [e1,e2,Bool.or_false]) (by rw [h1];simpa using h2) ⟨.str ⟨#[c]⟩,H,I.tok _,⟨_,rfl⟩,q⟩) hs
def rIx (K:Frag):R2:=fun x y H Q=>qkp K x y H Q∨qkn K x y H Q∨qko x y H Q
theorem qjo:IxR X (rIx X.K):=qhi.or (qjm.or qjn)
theorem QG (its:List Ab) (n j:Nat) (u:Ab):Obj.mapSeq (·.setIfInBounds j u) {cls:= .type "list",data:= .seq its.toArray n}={cls:= .type "list",data:= .seq (its.set j u).toArray n}:=by
 simp [Obj.mapSeq]
theorem Inv.lst {pins:List (Ac×Obj)} {σ:St} {H:Hp} {s:Ae} {p:Ac} {xs:List V} (I:Inv X pins σ H s) (h:H p=some (.lst xs)):
  ∃ (its:List Ab) (n:Nat),qH xs its∧s.heap.get? p=some {cls:= .type "list",data:= .seq its.toArray n}∧xs.length≤Af:=by
 obtain ⟨z,its,n,r,e⟩:=I.hok p _ h;exact ⟨its,n,r,e,z⟩
theorem Inv.lstUpd {pins:List (Ac×Obj)} {σ:St} {H:Hp} {s:Ae} {p:Ac} {xs ys:List V} {its its':List Ab} {n n':Nat} {f:Obj→Obj} (I:Inv X pins σ H s) (h:H p=some (.lst xs))
  (ho:s.heap.get? p=some {cls:= .type "list",data:= .seq its.toArray n}) (hf:f {cls:= .type "list",data:= .seq its.toArray n}={cls:= .type "list",data:= .seq its'.toArray n'}) (r:qH ys its') (hz:ys.length≤Af) (t:Nat):
  Inv X pins σ (upd H p (.lst ys)) {s with heap:=s.heap.update p f,toks:=t}:=by
 have e:(s.heap.update p f).get? p=some {cls:= .type "list",data:= .seq its'.toArray n'}:=by
  rw [Heap.get?_update_self f ho (by rw [hf] <;> rfl),hf]
 refine I.write (x:=p) (e:=p) (by rw [h];trivial) (.inl rfl) (fun b u hb q=>(Heap.get?_update_other _ _ (Ne.symm hb)).trans q) ⟨_,e⟩ ?_
 exact ⟨hz,its',n',r,e⟩
def qkk:V→V→V→Hp→(Hp→Prop)→Prop:=fun o i v H Q=>∃ p xs k j,o= .ref p∧i= .int k∧H p=some (.lst xs)∧ixN xs.length k=some j∧Q (upd H p (.lst (xs.set j v)))
theorem qdo:qls X qkk:=by
 intro pins s σ H o i v ov iv u Q I ro ri rv h;obtain ⟨p,xs,k,j,rfl,rfl,hp,hj,q⟩:=h;cases ro;obtain ⟨t,rfl⟩:=ri;obtain ⟨its,n,r,ho,hz⟩:=I.lst hp;obtain ⟨h1,h2,h3,h4⟩:=qas hj;have hl:=r.length;have hn:=wk;have I':Inv X pins σ (upd H p (.lst (xs.set j v))) {s with heap:=s.heap.update p (Obj.mapSeq (·.setIfInBounds j u))}:=
  I.lstUpd hp ho (QG its n j u) (r.set rv j) (by rw [Ds];exact hz) s.toks
 by_cases h0:0≤k
 ·have hk:k.toNat=j:=by
   rw [seqIndex_of h0 h4] at h1;exact Bb h1
  exact PySem.W.ki_setAt ho h0 ⋯ (by rw [A6,← hl];exact h4) (by rw [hk];exact ⟨_,I',q⟩)
 ·have hk:(k+(its.toArray.size:Int)).toNat=j:=by
   rw [seqIndex_neg ⋯ h3] at h1;rw [A6,← hl];exact Bb h1
  exact PySem.W.ki_setBack ho ⋯ (by rw [A6,← hl];exact h3) ⋯ (by rw [hk];exact ⟨_,I',q⟩)
theorem Xe (lo hi:Option Int) (n:Nat):(sliceBounds lo hi none n).1=((HT.sIx n 0 lo:Nat):Int)∧(sliceBounds lo hi none n).2.1=((HT.sIx n n hi:Nat):Int)∧(sliceBounds lo hi none n).2.2=1:=by
 refine ⟨?_,?_,rfl⟩
 ·cases lo with
  | none=>simp [sliceBounds,HT.sIx]
  | some i=>
   simp only [sliceBounds,HT.sIx,Option.getD_none,show (1:Int)>0 from O0,if_true]
   by_cases h:i<0
   ·simp only [h,if_true] <;> omega
   ·simp only [h,if_false] <;> omega
 ·cases hi with
  | none=>simp [sliceBounds,HT.sIx]
  | some i=>
   simp only [sliceBounds,HT.sIx,Option.getD_none,show (1:Int)>0 from O0,if_true]
   by_cases h:i<0
   ·simp only [h,if_true] <;> omega
   ·simp only [h,if_false] <;> omega
theorem yQ (its:List Ab) (lo hi:Option Int):slicePick its.toArray lo hi none=((its.drop (HT.sIx its.length 0 lo)).take (HT.sIx its.length its.length hi - HT.sIx its.length 0 lo)).toArray:=by
 obtain ⟨h1,h2,h3⟩:=Xe lo hi its.toArray.size;unfold slicePick;rw [h1,h2,h3];simp only [sliceRange_one,pick_run,A6] <;> rfl
def qkj (K:Frag):V→Option Int→Option Int→Hp→VK→Prop:=fun x lo hi H Q=>∃ a xs,x= .ref a∧SqL K H a xs∧∀ p,H p=none→Q (.ref p) (upd H p (.lst (jf xs lo hi)))
theorem qgg:SlR X (qkj X.K):=by
 intro pins s σ H x v vl vu lo hi sl Q I rx hs pl pu h;obtain ⟨a,xs,rfl,hx,q⟩:=h;cases rx;obtain ⟨its,r,ht,hz⟩:=I.list hx;have hlen:=r.length;refine ⟨"list",_,slot_list_getitem.lookup,ht.isList.typeIs,?_⟩;refine wpAny_getItem_list_slice ht.isList hs pl pu .none (by simp) ?_ (by rw [A6] <;> omega)
 rw [yQ,← hlen];refine ⟨.ref s.heap.objs.size,_,I.laid (t':=s.toks) (o:= .lst (jf xs lo hi)) (fun b ob q=>Av _ q) (Ax _) ?_,rfl,q _ (I.hok.fresh (Ax _))⟩;exact ⟨Aw (wN xs lo hi) hz,_,0,(r.drop (HT.sIx xs.length 0 lo)).take (HT.sIx xs.length xs.length hi - HT.sIx xs.length 0 lo),Bh _ rfl⟩
def vS:V→Bool
 | .non=>true
 | .bl _=>true
 | .int _=>true
 | .str _=>true
 | _=>false
def eqV:V→V→Bool
 | .non,.non=>true
 | .bl a,.bl b=>a==b
 | .bl a,.int b=>(if a then 1 else 0)==b
 | .int a,.bl b=>a==(if b then 1 else 0)
 | .int a,.int b=>a==b
 | .str a,.str b=>a==b
 | _,_=>false
theorem qjt {A:Around} {s:Ae} {y x:V} {u v:Ab} (ry:qL y u) (rx:qL x v) (fy:vS y=true) (fx:vS x=true):SeqAt.EqAt A s u v (eqV y x):=by
 cases y with
 | non=>
  cases ry;cases x with
  | non=>cases rx;exact SeqAt.EqAt.same _
  | bl b=>cases rx;exact SeqAt.EqAt.none_bool b
  | int b=>obtain ⟨t,rfl⟩:=rx;exact SeqAt.EqAt.none_int b t
  | str b=>obtain ⟨t,rfl⟩:=rx;exact SeqAt.EqAt.none_str b t
  | _=>exact absurd (show false=true from fx) Ai
 | bl a=>
  cases ry;cases x with
  | non=>cases rx;exact SeqAt.EqAt.bool_none a
  | bl b=>cases rx;exact SeqAt.EqAt.bool_bool a b
  | int b=>obtain ⟨t,rfl⟩:=rx;exact SeqAt.EqAt.bool_int a b t
  | str b=>obtain ⟨t,rfl⟩:=rx;exact SeqAt.EqAt.bool_str a b t
  | _=>exact absurd (show false=true from fx) Ai
 | int a=>
  obtain ⟨t',rfl⟩:=ry;cases x with
  | non=>cases rx;exact SeqAt.EqAt.int_none a t'
  | bl b=>cases rx;exact SeqAt.EqAt.int_bool a t' b
  | int b=>obtain ⟨t,rfl⟩:=rx;exact SeqAt.EqAt.int_int a t' b t
  | str b=>obtain ⟨t,rfl⟩:=rx;exact SeqAt.EqAt.int_str a t' b t
  | _=>exact absurd (show false=true from fx) Ai
 | str a=>
  obtain ⟨t',rfl⟩:=ry;cases x with
  | non=>cases rx;exact SeqAt.EqAt.str_none a t'
  | bl b=>cases rx;exact SeqAt.EqAt.str_bool a t' b
  | int b=>obtain ⟨t,rfl⟩:=rx;exact SeqAt.EqAt.str_int a t' b t
  | str b=>obtain ⟨t,rfl⟩:=rx;exact SeqAt.EqAt.str_str a t' b t
  | _=>exact absurd (show false=true from fx) Ai
 | _=>exact absurd (show false=true from fy) Ai
def eqU (x:V) (u:Ab):Bool:=match u with
 | .none=>eqV .non x
 | .bool b=>eqV (.bl b) x
 | .int i _=>eqV (.int i) x
 | .str z _=>eqV (.str z) x
 | _=>false
theorem qfd {x y:V} {u:Ab} (r:qL y u) (f:vS y=true):eqU x u=eqV y x:=by
 cases y with
 | non=>cases r;rfl
 | bl b=>cases r;rfl
 | int i=>obtain ⟨t,rfl⟩:=r;rfl
 | str z=>obtain ⟨t,rfl⟩:=r;rfl
 | _=>exact absurd (show false=true from f) Ai
theorem V0 {x:V}:∀ {xs:List V} {us:List Ab},qH xs us→xs.all vS=true→us.any (eqU x)=xs.any fun y=>eqV y x
 | _,_,.nil,_=>rfl
 | y::xs,u::us,.cons r t,f=>by
  rw [D0,Al] at f;rw [Ej,Ej,qfd r f.1,V0 t f.2]
theorem vP {A:Around} {s:Ae} {x:V} {v:Ab} (rx:qL x v) (fx:vS x=true):∀ {xs:List V} {us:List Ab},qH xs us→xs.all vS=true→∀ u∈us,SeqAt.EqAt A s u v (eqU x u)
 | _,_,.nil,_=>fun u hu=>by cases hu
 | y::xs,u::us,.cons r t,f=>fun u' hu=>by
  rw [D0,Al] at f;rcases Ap.mp hu with rfl | hu
  ·rw [qfd r f.1];exact qjt r rx f.1 fx
  ·exact vP rx fx t f.2 u' hu
def inV (x:V) (xs:List V):Bool:=xs.any fun y=>eqV y x
def rIn (K:Frag) (neg:Bool):R2:=fun x y H Q=>∃ p xs,y= .ref p∧(SqL K H p xs∨SqT K H p xs)∧vS x=true∧xs.all vS=true∧Q (.bl (if neg then !inV x xs else inV x xs)) H
theorem qbx:OpR X (compareOp .In) (rIn X.K false):=by
 intro pins s σ H x y v u Q I rx ry h;obtain ⟨p,xs,rfl,hq,fx,fs,q⟩:=h;cases ry;rcases hq with hq | hq
 ·obtain ⟨its,r,pl,hz⟩:=I.list hq;refine SeqAt.in_listAt (eqU x) pl.isList (fun w hw=>vP rx fx r fs w (by simpa using hw)) ⟨.bl _,H,I,rfl,?_⟩
  rw [show its.toArray.any (eqU x)=its.any (eqU x) by simp,V0 r fs]
  exact q
 ·obtain ⟨its,r,pl,hz⟩:=I.tuple hq;refine SeqAt.in_tupleAt (eqU x) pl (fun w hw=>vP rx fx r fs w (by simpa using hw)) ⟨.bl _,H,I,rfl,?_⟩
  rw [show its.toArray.any (eqU x)=its.any (eqU x) by simp,V0 r fs]
  exact q
theorem Xp:OpR X (compareOp .NotIn) (rIn X.K true):=by
 intro pins s σ H x y v u Q I rx ry h;obtain ⟨p,xs,rfl,hq,fx,fs,q⟩:=h;cases ry;rcases hq with hq | hq
 ·obtain ⟨its,r,pl,hz⟩:=I.list hq;refine SeqAt.notIn_listAt (eqU x) pl.isList (fun w hw=>vP rx fx r fs w (by simpa using hw)) ⟨.bl _,H,I,rfl,?_⟩
  rw [show its.toArray.any (eqU x)=its.any (eqU x) by simp,V0 r fs]
  exact q
 ·obtain ⟨its,r,pl,hz⟩:=I.tuple hq;refine SeqAt.notIn_tupleAt (eqU x) pl (fun w hw=>vP rx fx r fs w (by simpa using hw)) ⟨.bl _,H,I,rfl,?_⟩
  rw [show its.toArray.any (eqU x)=its.any (eqU x) by simp,V0 r fs]
  exact q
theorem VY:Je X (.type "list") (fun xs H Q=>∃ p ys,xs=[.ref p]∧(SqL X.K H p ys∨SqT X.K H p ys)∧∀ l,H l=none→Q (.ref l) (upd H l (.lst ys))):=by
 intro pins s σ H xs us Q I r h;obtain ⟨p,ys,rfl,hq,q⟩:=h;obtain ⟨u,rfl,rx⟩:=JE r;cases rx;have fin:∀ (its:List Ab),qH ys its→ys.length≤Af→∀ (h':Heap) (c':Nat),(∀ b o',s.heap.get? b=some o'→h'.get? b=some o')→
   h'.get? s.heap.objs.size=some {cls:= .type "list",dict:=none,data:= .seq its.toArray c',slots:= #[]}→EP X pins σ Q (.ref s.heap.objs.size) {s with heap:=h'}:=fun its r' hz h' c' kp e=>
  ⟨.ref s.heap.objs.size,_,I.laid (t':=s.toks) kp (Ax _) (show zq X.prog X.w _ h' _ (.lst ys) from ⟨hz,its,c',r',e⟩),rfl,q _ (I.hok.fresh (Ax _))⟩
 rcases hq with hq | hq
 ·obtain ⟨its,r',pl,hz⟩:=I.list hq;have hlen:=r'.length;obtain ⟨o,ho,hc,n,hd⟩:=pl.isList;exact call_list_seq p (.inl rfl) ho hc hd (fun h' c' kp e=>fin its r' hz h' c' kp e) (by simp only [A6] <;> omega)
 ·obtain ⟨its,r',pl,hz⟩:=I.tuple hq;have hlen:=r'.length;obtain ⟨o,ho,hc,n,hd⟩:=pl;exact call_list_seq p (.inr rfl) ho hc hd (fun h' c' kp e=>fin its r' hz h' c' kp e) (by simp only [A6] <;> omega)
theorem yX:Je X (.type "tuple") (fun xs H Q=>∃ p ys,xs=[.ref p]∧((SqL X.K H p ys∧∀ l,H l=none→Q (.ref l) (upd H l (.tup ys)))∨(SqT X.K H p ys∧Q (.ref p) H))):=by
 intro pins s σ H xs us Q I r h;obtain ⟨p,ys,rfl,h⟩:=h;obtain ⟨u,rfl,rx⟩:=JE r;cases rx;rcases h with ⟨hq,q⟩ | ⟨hq,q⟩
 ·obtain ⟨its,r',pl,hz⟩:=I.list hq;have hlen:=r'.length;refine call_tuple_list pl.isList (fun h' kp=>?_) (by simp only [A6] <;> omega)
  have I1:Inv X pins σ H {s with heap:=h'}:=I.kept (t':=s.toks) kp
  have I2:Inv X pins σ (upd H h'.objs.size (.tup ys)) {s with heap:=h'.push {cls:= .type "tuple",data:= .seq its.toArray}}:=
   I1.laid (t':=s.toks) (fun b o e=>Av _ e) (Ax _) (show zq X.prog X.w _ _ _ (.tup ys) from ⟨hz,its,r',IsTup.new _ _⟩)
  exact ⟨.ref h'.objs.size,_,I2,rfl,q _ (I1.hok.fresh (Ax _))⟩
 ·obtain ⟨its,r',pl,hz⟩:=I.tuple hq;exact call_tuple_same pl ⟨.ref p,H,I,rfl,q⟩
def tyV (K:Frag) (T:String) (x:V) (H:Hp):Prop:=match x with
 | .str _=>T="str"
 | .int _=>T="int"
 | .ref p=>(T="list"∧∃ xs,SqL K H p xs)∨(T="tuple"∧∃ o,K.lookup p=some o∧o.cls= .type "tuple"∧o.dict=none)∨
   (T="dict"∧((∃ kvs,H p=some (.dK kvs))∨∃ kvs,H p=some (.dT kvs)))∨(T="set"∧∃ S n,H p=some (.set S n))
 | _=>False
theorem Z3 {pins:List (Ac×Obj)} {σ:St} {H:Hp} {s:Ae} {T:String} {x:V} {v:Ab} (I:Inv X pins σ H s) (r:qL x v) (ty:tyV X.K T x H):
  s.TypeIs v T∧∀ a,v= .ref a→∃ ob,s.heap.get? a=some ob∧ob.dict=none:=by
 cases x with
 | str z=>
  obtain ⟨t,rfl⟩:=r;cases (show T="str" from ty);exact ⟨typeIs_str s z t,fun _ e=>nomatch e⟩
 | int i=>
  obtain ⟨t,rfl⟩:=r;cases (show T="int" from ty);exact ⟨typeIs_int s i t,fun _ e=>nomatch e⟩
 | ref p=>
  cases r;rcases ty with ⟨rfl,xs,hq⟩ | ⟨rfl,o,hk,hc,hd⟩ | ⟨rfl,hk⟩ | ⟨rfl,S,n,hk⟩
  ·obtain ⟨its,_,pl,_⟩:=I.list hq;refine ⟨pl.isList.typeIs,fun a e=>?_⟩;cases e;obtain ⟨o,n,e,c,hd,_⟩:=pl;exact ⟨o,e,hd⟩
  ·refine ⟨⟨o,I.kIn p o hk,hc⟩,fun a e=>?_⟩;cases e;exact ⟨o,I.kIn _ o hk,hd⟩
  ·have z:∃ o,s.heap.get? p=some o∧o.ExactDict:=by
    rcases hk with ⟨kvs,hk⟩ | ⟨kvs,hk⟩
    ·obtain ⟨_,_,_,_,o,_,_,e,ex,_⟩:=I.hok p _ hk;exact ⟨o,e,ex⟩
    ·obtain ⟨_,_,_,_,o,_,_,e,ex,_⟩:=I.hok p _ hk;exact ⟨o,e,ex⟩
   obtain ⟨o,e,ex⟩:=z;refine ⟨⟨o,e,ex.1⟩,fun a e2=>?_⟩;cases e2;exact ⟨o,e,ex.2.1⟩
  ·obtain ⟨o,_,_,_,e,ex,_⟩:=I.hok p _ hk;refine ⟨⟨o,e,ex.1⟩,fun a e2=>?_⟩;cases e2;exact ⟨o,e,ex.2.1⟩
 | _=>exact False.elim ty
def qgb (K:Frag) (T:String) (r:V→List V→Hp→VK→Prop) (to:TE):TE:=fun σ H Q=>to σ H fun x H1=>tyV K T x H1∧r x [] H1 Q
def tBM (K:Frag) (T:String) (r:V→List V→Hp→VK→Prop) (to:TE) (t:TA):TE:=fun σ H Q=>to σ H fun x H1=>tyV K T x H1∧t σ H1 fun xs H2=>r x xs H2 Q
variable {o e:Expr} {es:List Expr} {to:TE} {t:TA} {name:Str} {apos cpos:Pos} {T id:String} {r:V→List V→Hp→VK→Prop}
theorem qi5 (pa:PlainAttrs T) (slot:Slot T name id) (hty:typeOf (.builtin id)=pure (.type "method_descriptor")) (hm:MtR X id r) (ho:PE X o to)
  (hbase:attributeBase o name X.env (eval o X.env)=eval o X.env:=by rfl) (hline:(apos.endLine==cpos.line)=true:=by rfl):PE X (.Call (.Attribute o name apos) [] [] cpos) (qgb X.K T r to):=by
 intro pins s σ H Q I h;refine wpAny_Call_method0_late hbase hline (thn (ho pins s σ H _ I h) fun v s1 ⟨x,H1,I1,r1,ty,q1⟩=>?_);obtain ⟨h1,h2⟩:=Z3 I1 r1 ty;exact ⟨T,id,pa,slot,hty,h1,h2,Ea rfl (PySem.evalArgs_none (hm pins s1 σ H1 x [] v [] Q I1 r1 .nil q1))⟩
theorem qkw (pa:PlainAttrs T) (slot:Slot T name id) (hty:typeOf (.builtin id)=pure (.type "method_descriptor")) (hm:MtR X id r) (ho:PE X o to) (ha:PA X (e::es) t)
  (hbase:attributeBase o name X.env (eval o X.env)=eval o X.env:=by rfl)
  (hfew:((backTo cpos (starEach (e::es) X.env)).all (fun x=>!x.1)&&(backToKw cpos (keywordEach [] X.env)).all (fun x=>x.1.isSome)
   &&decide ((e::es).length+([]:List Keyword).length+(if ([]:List Keyword).isEmpty then 0 else 1)<30))=true:=by rfl)
  (hline:(apos.endLine==cpos.line)=true:=by rfl) (hs:starEach (e::es) X.env=(false,eval e X.env)::starEach es X.env:=by rfl) (hplain:(backTo cpos (starEach es X.env)).any (·.1)=false:=by rfl):
  PE X (.Call (.Attribute o name apos) (e::es) [] cpos) (tBM X.K T r to t):=by
 intro pins s σ H Q I h;refine wpAny_Call_method_late hbase hfew hline rfl (thn (ho pins s σ H _ I h) fun v s1 ⟨x,H1,I1,r1,ty,q1⟩=>?_);obtain ⟨h1,h2⟩:=Z3 I1 r1 ty;refine ⟨T,id,pa,slot,hty,h1,h2,?_⟩;have hA:=ha cpos pins s1 σ H1 _ I1 q1;rw [hs] at hA ⊢;refine Ea (by show (false||(backTo cpos (starEach es X.env)).any (·.1))=false;rw [hplain] <;> rfl) (Calls.evalArgs_plain ?_)
 exact thn hA fun us s2 ⟨vs,H2,I2,r2,q2⟩=>hm pins s2 σ H2 x vs v us Q I2 r1 r2 q2
end
def MtM (X:Cx) (id:String) (r:V→List V→Hp→VK→Prop):Prop:=
 ∀ (pins:List (Ac×Obj)) (s:Ae) (σ:St) (H:Hp) (x:V) (xs:List V) (v:Ab) (us:List Ab) (Q:VK),Inv X pins σ H s→qL x v→qH xs us→r x xs H Q→
  wpAny (model X.prog X.w) X.A (call (.builtin id) (v::us)) (EP X pins σ Q) X.xe s
theorem qH.one:∀ {x:V} {us:List Ab},qH [x] us→∃ u,us=[u]∧qL x u
 | _,_,.cons r .nil=>⟨_,rfl,r⟩
theorem qH.zero:∀ {us:List Ab},qH [] us→us=[]
 | _,.nil=>rfl
theorem qH.dropLast {xs:List V} {us:List Ab} (h:qH xs us):qH xs.dropLast us.dropLast:=by
 induction h with
 | nil=>exact .nil
 | cons r t ih=>
  cases t with
  | nil=>exact .nil
  | cons q t'=>exact .cons r ih
theorem qH.rep {xs:List V} {us:List Ab} (h:qH xs us):∀ k:Nat,qH (List.replicate k xs).flatten (List.replicate k us).flatten
 | 0=> .nil
 | k+1=>by
  rw [Cm,Cm,Bp,Bp];exact qH.append h (qH.rep h k)
theorem QU {α:Type} (l:List α):l.eraseIdx (l.length - 1)=l.dropLast:=by
 induction l with
 | nil=>rfl
 | cons a r ih=>
  cases r with
  | nil=>rfl
  | cons b r=>
   have e:(a::b::r).length - 1=((b::r).length - 1)+1:=by
    have h1:(a::b::r).length=r.length+2:=rfl;have h2:(b::r).length=r.length+1:=rfl;omega
   rw [e,List.eraseIdx_cons_succ,ih]
   all_goals rfl
theorem YM (its:List Ab):∀ (k:Nat) (acc:List Ab),
  List.foldl (fun x1 x2=>x1++x2) acc.toArray (List.replicate k its.toArray)=(acc++(List.replicate k its).flatten).toArray
 | 0,acc=>by simp
 | k+1,acc=>by
  have e:acc.toArray++its.toArray=(acc++its).toArray:=by simp
  have e2:(acc++its)++(List.replicate k its).flatten=acc++(List.replicate (k+1) its).flatten:=by
   rw [Cm,Bp,Bl]
  rw [← e2,← YM its k (acc++its),← e,Cm,B8]
section
variable {X:Cx} {pins:List (Ac×Obj)} {σ:St} {H:Hp} {s:Ae} {l b:Ac} {xs ys zs:List V}
theorem Inv.lset {its its':List Ab} {n:Nat} {f:Array Ab→Array Ab} {t':Nat} (I:Inv X pins σ H s) (hH:H l=some (.lst xs))
  (e:s.heap.get? l=some {cls:= .type "list",data:= .seq its.toArray n}) (hf:f its.toArray=its'.toArray) (hv:qH ys its') (hz:ys.length≤Af):
  Inv X pins σ (upd H l (.lst ys)) {s with heap:=s.heap.update l (Obj.mapSeq f),toks:=t'}:=by
 have q:=PySem.IsL.update e f;rw [hf] at q;refine I.write (x:=l) (e:=l) (by rw [hH];exact trivial) (.inl rfl) (fun b' u hb hu=>(Heap.get?_update_other s.heap (Obj.mapSeq f) (Ne.symm hb)).trans hu) ⟨_,q⟩ ?_
 exact ⟨hz,its',_,hv,q⟩
theorem Inv.lnew {its:List Ab} {t':Nat} (I:Inv X pins σ H s) (hv:qH ys its) (hz:ys.length≤Af):
  Inv X pins σ (upd H s.heap.objs.size (.lst ys)) {s with heap:=s.heap.push {cls:= .type "list",data:= .seq its.toArray},toks:=t'}:=
 I.laid (fun _ _ q=>Av _ q) (Ax _) ⟨hz,its,0,hv,Bh _ rfl⟩
theorem Inv.fresh (I:Inv X pins σ H s):H s.heap.objs.size=none:=I.hok.fresh (Ax _)
theorem Inv.lstM (I:Inv X pins σ H s) (hH:H l=some (.lst xs)):xs.length≤Af∧∃ (its:List Ab) (n:Nat),qH xs its∧xs.length=its.length∧s.heap.get? l=some {cls:= .type "list",data:= .seq its.toArray n}:=by
 obtain ⟨z,its,n,r,e⟩:=I.hok l _ hH;exact ⟨z,its,n,r,r.length,e⟩
theorem qei {n:Nat} (h:n≤Af):Builtin.List.listTooLong n=false:=by
 unfold Builtin.List.listTooLong;exact Ar ⋯
end
section
variable {X:Cx}
def vd:V→List V→Hp→VK→Prop:=fun x vs H Q=>∃ l xs y,x= .ref l∧vs=[y]∧H l=some (.lst xs)∧xs.length<Af∧Q .non (upd H l (.lst (xs++[y])))
theorem jG:MtM X "list.append" vd:=by
 intro pins s σ H x vs v us Q I rx rv h;obtain ⟨l,xs,y,rfl,rfl,hH,hz,q⟩:=h;cases rx;obtain ⟨u,rfl,ru⟩:=rv.one;obtain ⟨z,its,n,r,hl,e⟩:=I.lstM hH;refine E2 F.slot_list_append ⟨_,e,rfl⟩ F.entry_list_append (F.args_list_append_2 _ _) (PySem.list_append l its.toArray n u (by rw [A6];omega)) ⟨e,?_⟩
 refine ⟨.non,_,I.lset (its':=its++[u]) hH e (by simp) (r.append (.cons ru .nil)) ?_,rfl,q⟩
 rw [Ak,Cy];omega
def Wn:V→List V→Hp→VK→Prop:=fun x vs H Q=>∃ l b xs zs,x= .ref l∧vs=[.ref b]∧H l=some (.lst xs)∧H b=some (.lst zs)∧xs.length+zs.length≤Af∧Q .non (upd H l (.lst (xs++zs)))
theorem wg:MtM X "list.extend" Wn:=by
 intro pins s σ H x vs v us Q I rx rv h;obtain ⟨l,b,xs,zs,rfl,rfl,hH,hB,hz,q⟩:=h;cases rx;obtain ⟨u,rfl,ru⟩:=rv.one;cases ru;obtain ⟨z,its,n,r,hl,e⟩:=I.lstM hH;obtain ⟨z2,its2,n2,r2,hl2,e2⟩:=I.lstM hB;have hsz:its.toArray.size+its2.toArray.size≤Af:=by rw [A6,A6];omega
 have hlong:¬ (!its.toArray.isEmpty&&Builtin.List.listTooLong (its.toArray.size+its2.toArray.size))=true:=by
  rw [qei hsz,Ev];exact Ai
 refine E2 F.slot_list_extend ⟨_,e,rfl⟩ F.entry_list_extend (F.args_list_extend_2 _ _)
  (AutoSeq1.list_extend_list_list_0 l its.toArray n b its2.toArray n2 hlong (by rw [A6];omega) ⋯) ⟨e,e2,?_⟩
 refine ⟨.non,_,I.lset (its':=its++its2) hH e (by simp) (r.append r2) ?_,rfl,q⟩
 rw [Ak];omega
def qkl:V→List V→Hp→VK→Prop:=fun x vs H Q=>∃ l xs y,x= .ref l∧vs=[]∧H l=some (.lst xs)∧xs[xs.length - 1]?=some y∧Q y (upd H l (.lst xs.dropLast))
theorem qjf:MtM X "list.pop" qkl:=by
 intro pins s σ H x vs v us Q I rx rv h;obtain ⟨l,xs,y,rfl,rfl,hH,hy,q⟩:=h;cases rx;have hus:=rv.zero;subst hus;obtain ⟨z,its,n,r,hl,e⟩:=I.lstM hH;obtain ⟨u,hu,ru⟩:=r.get hy;have hy':its.toArray[its.toArray.size - 1]?=some u:=by
  show its.toArray[its.length - 1]?=some u;rw [← Array.getElem?_toList,← hl];exact hu
 refine E2 F.slot_list_pop ⟨_,e,rfl⟩ F.entry_list_pop (F.args_list_pop_1 _) (MeetsSeq.list_pop_last l its.toArray n u hy' (by rw [A6];omega)) ⟨e,?_⟩
 refine ⟨y,_,I.lset (its':=its.dropLast) hH e ?_ r.dropLast ?_,ru,q⟩
 ·show its.toArray.eraseIdxIfInBounds (its.toArray.size - 1)=its.dropLast.toArray;rw [A6,List.eraseIdxIfInBounds_toArray,QU]
 ·rw [List.length_dropLast];omega
def qkr:R2:=fun x y H Q=>∃ l b xs zs,x= .ref l∧y= .ref b∧H l=some (.lst xs)∧H b=some (.lst zs)∧xs.length+zs.length≤Af∧∀ p,H p=none→Q (.ref p) (upd H p (.lst (xs++zs)))
theorem qja:OpR X (binaryOp .Add) qkr:=by
 intro pins s σ H x y v u Q I rx ry h;obtain ⟨l,b,xs,zs,rfl,rfl,hH,hB,hz,q⟩:=h;cases rx;cases ry;obtain ⟨z,its,n,r,hl,e⟩:=I.lstM hH;obtain ⟨z2,its2,n2,r2,hl2,e2⟩:=I.lstM hB;refine PySem.P.add_list e e2 ?_ (by rw [A6,A6];omega)
 have ea:its.toArray++its2.toArray=(its++its2).toArray:=by simp
 rw [ea];exact ⟨.ref _,_,I.lnew (t':=s.toks) (r.append r2) (by rw [Ak];omega),rfl,q _ I.fresh⟩
theorem qao {α:Type} (xs:List α) (k:Nat):(List.replicate k xs).flatten.length=k*xs.length:=by
 induction k with
 | zero=>simp
 | succ k ih=>rw [Cm,Bp,Ak,ih,Nat.succ_mul,Nat.add_comm]
end
section
variable {prog:Program} {w:World} {A:Around} {E:Ab→Ae→Prop} {s:Ae}
end
section
variable {X:Cx}
end
end L2
namespace Att
open PySem PySem.W PySem.Calls PyProof.Rows
theorem w8 {P:Params} {h:Heap}:∀ (ns:List Int) (vs:List Ab),WellAll P h vs (ns.map WData.int)→IntsAre vs ns:=by
 intro ns
 induction ns with
 | nil=>
  intro vs w;rw [Cd] at w;cases w;exact .nil
 | cons n ns ih=>
  intro vs w;rw [As] at w;cases w with
  | cons a b=>
   cases a;exact .cons _ _ (ih _ b)
theorem qbq {l:OpenLaw} {n:Nat} (hn:l.most=some n) {P:Params} {h:Heap} {args:List WData} {vals:List Ab}
  (hpre:l.row.toRowW.claim.pre args=true) (hwl:WellAll P h vals args):
  ∃ a vs ns,vals=[Value.ref a]∧args=[WData.list (ns.map WData.int)]∧h.get? a=some {cls:= .type "list",data:= .seq vs.toArray}∧IntsAre vs ns∧ns.length≤n:=by
 have hsh:WShape.hasAll [] args [.list .int]=true:=(pre_splitW hpre).1;have hc:l.pre.holds [] {args:=args}=true:=(pre_splitW hpre).2;obtain ⟨d,r,rfl,h1,h2⟩:=hasAllW_cons hsh;obtain rfl:=hasAllW_nil h2;obtain ⟨xs,rfl,h3⟩:=hasW_list h1;obtain ⟨ns,rfl⟩:=items_int h3;have hlen:ns.length≤n:=by
  unfold OpenLaw.pre at hc;have h4:(WTm.not (.lt (.lit (.int (n:Int))) (.len (.arg 0)))).holds [] {args:=[.list (ns.map .int)]}=true:=by
   have h4:=(holds_andW hc).1;rw [hn] at h4;exact h4
  have h5:=condW_of h4 (w_not (w_lt w_lit (w_len_list (w_arg rfl))));rw [Ah] at h5;refine Nat.le_of_not_lt fun q=>?_;have q':(n:Int)<((ns.length:Nat):Int):=⋯
  first
   | (rw [An q'] at h5;exact absurd h5 O0)
   | (simp at h5;omega)
 cases hwl with
 | cons w1 w2=>
  cases w2;cases w1 with
  | list ho hall=>exact ⟨_,_,ns,rfl,rfl,ho,w8 ns _ hall,hlen⟩
theorem qbv (l:OpenLaw) (args:List WData):l.row.toRowW.claim.post args (.bool true) args=true:=
 postW_of (r:=l.row.toRowW) (X:=(true==true))
  (show WShape.has [] (.bool true) .bool=true by first | rfl | decide | simp [WShape.has,WShape.arms,WShape.armsAll])
  (show (WTm.eq .res (.lit (.bool true))).value [] {args:=args,res:=some (.bool true),after:=args}=some (.bool (true==true)) from w_eq_bool (w_res rfl) w_lit) rfl
theorem attach_call {l:OpenLaw} {n:Nat} {q:Program} {loose:List Str} {XP:(Str→Option Ab)→Heap→Prop} {YP:World→Heap→Prop} {d:DefRec}
  (hn:l.most=some n) (hdf:d.params.defaults=[])
  (call:∀ (w:World) (s₀ s₁:Ae) (mg mb:Str→Option Ab) (fa:Ac) (o:Obj) (pm cd doc:Ab) (a:Ac) (vs:List Ab) (ns:List Int),
   Ground q loose [] XP w s₀ mg mb s₁.heap→YP w s₁.heap→
   s₁.heap.get? fa=some o→o.data= .func (docDef d.name d.params d.body d.scope pm cd doc)→s₁.heap.CodeRec cd d.name→mg d.name=some (.ref fa)→
   s₁.heap.get? a=some {cls:= .type "list",data:= .seq vs.toArray}→IntsAre vs ns→ns.length≤n→s₁.gens= #[]→
   codeAny (model l.prog w) callerA (.call (.ref fa) ⟨[.ref a],[]⟩) (fun r s'=>r= .ok (.ret (.bool true))∧OldK s₁.heap s'.heap∧s'.os=s₁.os∧AllBare s'.gens) s₁):
  WalkO q loose XP YP l.row.toRowW d [] (fun f vs=>PySem.call f vs):=by
 intro w s₀ s₁ mg mb G Y fa o pm cd doc dV kV ho hd hcd hD hmg hg args vals as hpre hlay hrd hwl hlo;obtain rfl:dV= .none:=Dflts.none hD hdf;obtain rfl:kV= .none:=Dflts.noKw hD;obtain ⟨a,vs,ns,rfl,rfl,hobj,hints,hlen⟩:=qbq hn hpre hwl;refine enter_call (Ep (call w s₀ s₁ mg mb fa o pm cd doc a vs ns G Y ho (fd_plain hd) hcd hmg hobj hints hlen hg) fun r s' hq=>?_);obtain ⟨rfl,h2,h3,h4⟩:=hq;exact ⟨.inl ⟨.bool true,.bool true,[],rfl,fun _=>rfl,.bool true,qbv l _,fun _=>⟨List.Pairwise.nil,fun _ hm=>(nomatch hm)⟩⟩,h2,h3,h4⟩
section
variable {prog:Program} {w:World} {A:Around} {E:Ab→Ae→Prop} {s:Ae} {K:Frag}
end
end Att
namespace L2
open PySem PySem.Spec PyProof.Rows
theorem Yp:∀ {vs:List Ab} {ns:List Int},IntsAre vs ns→qH (ns.map V.int) vs
 | _,_,.nil=> .nil
 | _,_,.cons n t h=> .cons ⟨t,rfl⟩ (Yp h)
def qj7 (H:Hp):Prop:=∀ b,H b=none∨∃ o xs,H b=some (.frz o (.lst xs))
theorem qev {P:Program} {w:World} {K:Frag} {mg mb:Str→Option Ab} {CX:CXT} {k:Nat} {fa a:Ac} {fd:FuncData} {x:Str} {sp:Sp} {s₁:Ae} {vs:List Ab} {ns:List Int}
  (KX:K.In s₁.heap) (hns:s₁.heap.Ns Aq mg) (hb:s₁.heap.Ns builtinsNs mb) (hbb:∀ x:Str,x≠"__name__"→mb x=bootBuiltins x) (hlim:s₁.heap.NoLimit) (hg:s₁.gens= #[])
  (ha:s₁.heap.get? a=some {cls:= .type "list",data:= .seq vs.toArray}) (hi:IntsAre vs ns) (hl:ns.length≤Af) (hr:Room k callerA)
  (F:∀ base:Heap,K.In base→base.Ns Aq mg→FnOk P w K mg base CX k fa fd [x] sp) (hbind:∀ (s:Ae) (u:Ab),BindsTo s fd ⟨[u],[]⟩ [(x,u)])
  (hsp:∀ H:Hp,qj7 H→SqL K H a (ns.map V.int)→sp [.ref a] H (fun v _=>v= .bl true) fun _ _ _=>False)
  (hCX:∀ H e s',CX [] H s₁ (fun _ _ _=>False) e s'→False):
  codeAny (model P w) callerA (.call (.ref fa) ⟨[.ref a],[]⟩) (fun r s'=>r= .ok (.ret (.bool true))∧OldK s₁.heap s'.heap∧s'.os=s₁.os∧AllBare s'.gens) s₁:=by
 have rv:=Yp hi;have lenV:=hi.length;have core:∀ H:Hp,qj7 H→SqL K H a (ns.map V.int)→HOk P w H s₁.heap→(∀ b,H b≠none→b=a)→(H a≠none→K.lookup a=none)→
   codeAny (model P w) callerA (.call (.ref fa) ⟨[.ref a],[]⟩) (fun r s'=>r= .ok (.ret (.bool true))∧OldK s₁.heap s'.heap∧s'.os=s₁.os∧AllBare s'.gens) s₁:=by
  intro H hO hS hok hA hK;have base_of:∀ {b:Ac} {o:Obj},s₁.heap.get? b=some o→H b=none→(XE s₁.heap H).get? b=some o:=fun e n=>qe0 e n;have noA:∀ {b:Ac} {o:Obj} {es:Array DictEntry} {ep:Nat},s₁.heap.get? b=some o→o.data= .dict es ep→H b=none:=fun {b o es ep} e d=>by
   cases q:H b with
   | none=>rfl
   | some u=>
    have e':b=a:=hA b (by rw [q];simp)
    subst e';rw [ha] at e;cases e;have d':Data.seq vs.toArray _=Data.dict es ep:=d;cases d'
  have nsK:∀ {b:Ac} {m:Str→Option Ab},s₁.heap.Ns b m→(XE s₁.heap H).Ns b m:=fun {b m} ⟨o,es,ep,e,d,r⟩=>⟨o,es,ep,base_of e (noA e d),d,r⟩;have hKb:K.In (XE s₁.heap H):=fun b o e=>base_of (KX b o e) (by
   cases q:H b with
   | none=>rfl
   | some u=>
    have e':b=a:=hA b (by rw [q];simp)
    subst e';rw [hK (by rw [q];simp)] at e;cases e)
  have hM:Mod K mg (XE s₁.heap H):=⟨hKb,nsK hns,⟨mb,nsK hb,hbb⟩,let ⟨mc,h1,h2⟩:=hlim;⟨mc,nsK h1,h2⟩⟩;have e0:Env0 P w K mg (XE s₁.heap H) callerA [] s₁ H:=⟨rfl,hM,fun b o e=>qg7 e,Nat.le_of_eq (qb7 _ _),trivial,fun b hb=>absurd (show b∈([]:List Ac) from hb) (by simp),hok,.of_eq hg⟩
  refine Ep ((F _ hKb (nsK hns)).run callerA [] s₁ H ⟨[.ref a],[]⟩ [.ref a] [.ref a] _ _ hr e0 (hbind s₁ (.ref a)) (.cons rfl .nil) (hsp H hO hS)) fun r s' h=>?_;cases r with
  | error e=>exact (hCX H e s' h).elim
  | ok fl=>
   cases fl with
   | next=>exact False.elim h
   | brk=>exact False.elim h
   | cont=>exact False.elim h
   | ret u=>
    obtain ⟨v,H',os,bare,un,hok',r',q⟩:=h;have q':v= .bl true:=q;subst q';obtain rfl:u=Value.bool true:=r';refine ⟨rfl,OldK.of_keep fun b o e=>?_,os,bare⟩;cases q:H b with
    | none=>exact un.keep b o e q (by intro z;exact absurd (show b∈([]:List Ac) from z) (by simp)) (by simp)
    | some u=>
     rcases hO b with z | ⟨ob,xs,z⟩
     ·rw [q] at z;cases z
     ·have z2:=un.frzs b ob _ z;obtain ⟨e1,_⟩:=hok b _ z;obtain ⟨e2,_⟩:=hok' b _ z2;rw [e] at e1;cases e1;exact e2
 cases hk:K.lookup a with
 | some o=>
  have e:=KX a o hk;rw [ha] at e;cases e;refine core (fun _=>none) (fun _=> .inl rfl) (.inr ⟨_,vs.toArray,_,hk,rfl,rfl,rfl,by rw [A6,lenV];exact hl,by simpa using rv⟩) (fun b u z=>by have z':(none:Option HO)=some u:=z;cases z') (fun b z=>absurd rfl z) fun z=>absurd rfl z
 | none=>
  refine core (fun b=>if b=a then some (.frz {cls:= .type "list",data:= .seq vs.toArray} (.lst (ns.map V.int))) else none) (fun b=>?_) (.inl (.inr ⟨{cls:= .type "list",data:= .seq vs.toArray},if_pos rfl⟩)) (fun b u z=>?_) (fun b z=>?_) fun _=>hk
  ·by_cases hb:b=a
   ·exact .inr ⟨_,_,if_pos hb⟩
   ·exact .inl (if_neg hb)
  ·by_cases hb:b=a
   ·have z':=(if_pos hb).symm.trans z;cases z';subst hb;exact ⟨ha,by rw [Ah];exact hl,vs,_,rv,ha⟩
   ·have z':=(if_neg hb).symm.trans z;cases z'
  ·by_cases hb:b=a
   ·exact hb
   ·exact absurd (if_neg hb) z
theorem Wj {l:PySem.W.OpenLaw} {n k:Nat} {q:Program} {loose:List Str} {XP:(Str→Option Ab)→Heap→Prop} {YP:World→Heap→Prop} {d:DefRec} {K:Params→Frag} {CX:World→CXT} {sp:World→Sp} {x:Str}
  (hn:l.most=some n) (hn2:n≤Af) (hdf:d.params.defaults=[]) (hr:Room k callerA)
  (hY:∀ (w:World) (h:Heap),YP w h→(K w.params).In h)
  (F:∀ (w:World) (mg:Str→Option Ab) (fa:Ac) (h:Heap),(K w.params).In h→h.Ns Aq mg→mg d.name=some (.ref fa)→
   ∃ fd:FuncData,(∀ (s:Ae) (u:Ab),BindsTo s fd ⟨[u],[]⟩ [(x,u)])∧
    ∀ base:Heap,(K w.params).In base→base.Ns Aq mg→FnOk l.prog w (K w.params) mg base (CX w) k fa fd [x] (sp w))
  (hsp:∀ (w:World) (H:Hp) (a:Ac) (ns:List Int),ns.length≤n→qj7 H→SqL (K w.params) H a (ns.map V.int)→sp w [.ref a] H (fun v _=>v= .bl true) fun _ _ _=>False)
  (hCX:∀ (w:World) (H:Hp) (s:Ae) (e:Ab) (s':Ae),CX w [] H s (fun _ _ _=>False) e s'→False):
  PySem.W.WalkO q loose XP YP l.row.toRowW d [] (fun f vs=>PySem.call f vs):=by
 refine Att.attach_call hn hdf fun w s₀ s₁ mg mb fa o pm cd doc a vs ns G Y ho hd hcd hmg hobj hints hlen hg=>?_;have KX:=hY w _ Y;obtain ⟨fd,hb,hF⟩:=F w mg fa _ KX G.T.g hmg;exact qev KX G.T.g G.T.b G.T.builtins G.T.nolimit hg hobj hints (Aw hlen hn2) hr hF hb (fun H hO hS=>hsp w H a ns hlen hO hS) fun H e s'=>hCX w H s₁ e s'
def XD (s:Stmt) (j:Nat):Stmt:=match s with
 | .ClassDef _ _ _ body _ _ _ _ _ _ _=>body.getD j (.Pass ⟨0,0,0,0⟩)
 | _=> .Pass ⟨0,0,0,0⟩
def j8 (s:Stmt):Arguments:=match s with
 | .FunctionDef _ a _ _ _ _ _ _ _ _=>a
 | _=>{posonlyargs:=[],args:=[],vararg:=none,kwonlyargs:=[],kw_defaults:=[],kwarg:=none,defaults:=[]}
def jh (s:Stmt):List Stmt:=match s with
 | .FunctionDef _ _ b _ _ _ _ _ _ _=>b
 | _=>[]
def qj (s:Stmt):Scope:=match s with
 | .FunctionDef _ _ _ _ _ _ sc _ _ _=>sc
 | _=>{kind:= .function,names:=[],isGenerator:=false,isCoroutine:=false}
abbrev CX0:CXT:=fun _ _ _ _ _ _=>False
abbrev E0:XK:=fun _ _ _=>False
theorem qee {X:Cx}:JT CX0 X E0:=fun _ _ _ _ _ _ _ h=>h.elim
structure Fun (K:Frag) (x qual:Str) (st:Stmt) (f:Ac) (fd:FuncData):Prop where
 ex:∃ (oc:Ab) (od:Option Ac) (kV doc pm:Ab) (an:Option Ac) (cdv ct:Ab) (osl:Array (Option Ab)),
  fd=PySem.W.fnOf x qual (j8 st) (jh st) (qj st) .none kV doc pm an cdv ct∧K.lookup f=some ⟨oc,od,.func fd,osl⟩∧PySem.W.codeIn K cdv qual=true
 kp:PySem.W.keepIn K (.ref f)=true
section
variable {P:Program} {w:World} {K:Frag} {mg:Str→Option Ab} {base:Heap}
theorem Fun.ok {x qual:Str} {st:Stmt} {f:Ac} {fd:FuncData} {N ps:List Str} {k:Nat} {sp:Sp} (F:Fun K x qual st f fd) (S:FnScope N ps (qj st)) (len:∀ vs H Q E,sp vs H Q E→vs.length=ps.length)
  (hbody:∀ (cdv:Ab) (A:Around) (outer:List Env) (s:Ae) (H:Hp) (vs:List V) (Q:VK) (E:XK),Room k (A.deeper (envOfC qual (qj st) s.heap.objs.size f cdv))→sp vs H Q E→
   ∃ t,PSs (Wb CX0 P w K mg base N qual (qj st) f cdv A outer s H E).nox (jh st) t∧t {nx:=fun _ H'=>Q .non H',rt:=Q} (start N vs) H):FnOk P w K mg base CX0 (k+1) f fd ps sp:=by
 obtain ⟨oc,od,kV,doc,pm,an,cdv,ct,osl,rfl,lk,hcd⟩:=F.ex;refine qia lk hcd S len fun A outer s H vs Q E hr hsp=>?_;obtain ⟨t,h,q⟩:=hbody cdv A outer s H vs Q E hr hsp;exact ⟨t,h.nox,q⟩
theorem Fun.binds {x qual:Str} {st:Stmt} {f:Ac} {fd:FuncData} {ps:List Str} (F:Fun K x qual st f fd)
  (h:∀ (kV doc pm:Ab) (an:Option Ac) (cdv ct:Ab) (us:List Ab),us.length=ps.length→bindArgs (PySem.W.fnOf x qual (j8 st) (jh st) (qj st) .none kV doc pm an cdv ct) ⟨us,[]⟩=pure (ps.zip us)):Jf K fd ps []:=by
 obtain ⟨oc,od,kV,doc,pm,an,cdv,ct,osl,rfl,lk,hcd⟩:=F.ex;exact .all (h kV doc pm an cdv ct)
theorem qe5 {x qual:Str} {st:Stmt} {f:Ac} {oc:Ab} {od an:Option Ac} {osl:Array (Option Ab)} {kV doc pm cdv ct:Ab} (l:K.lookup f=some ⟨oc,od,.func (PySem.W.fnOf x qual (j8 st) (jh st) (qj st) .none kV doc pm an cdv ct),osl⟩)
  (c:PySem.W.codeIn K cdv qual=true) (k:PySem.W.keepIn K (.ref f)=true):Fun K x qual st f (PySem.W.fnOf x qual (j8 st) (jh st) (qj st) .none kV doc pm an cdv ct):=⟨⟨oc,od,kV,doc,pm,an,cdv,ct,osl,rfl,l,c⟩,k⟩
end
theorem ZK {A:Around} {k:Nat} (hr:Room k A):A.units+1<cLine:=Ch (Nat.add_le_add_left (O0:1≤64) _) hr.units
section
variable {X:Cx}
theorem pv (i:Nat) {x:Str} {pos:Pos} (hN:X.N[i]?=some x:=by rfl) (hv:Vis X.env.scope x:=by first | exact Or.inl rfl | exact Or.inr (Or.inl rfl) | exact Or.inr (Or.inr rfl)) (hd:(x==("__debug__":Str))=false:=by decide)
  (hcd:(x==("__classdict__":Str))=false:=by decide):PE X (.Name x pos) (qk i):=qi4 hN hv hd hcd
end
theorem w4 {A B:Prop} (h:B):if false=true then A else B:=by
 rw [if_neg Ai];exact h
theorem vv {A B:Prop} (h:A):if true=true then A else B:=by
 rw [if_pos rfl];exact h
theorem w6 {c A B:Prop} [Decidable c] (h1:c→A) (h2:¬ c→B):if c then A else B:=by
 by_cases h:c
 ·rw [if_pos h];exact h1 h
 ·rw [if_neg h];exact h2 h
def qy (H H':Hp):Prop:=∀ b o,H b=some o→H' b=some o
theorem qy.refl (H:Hp):qy H H:=fun _ _ h=>h
theorem qy.trans {H H1 H2:Hp} (a:qy H H1) (b:qy H1 H2):qy H H2:=fun c o h=>b c o (a c o h)
theorem qy.free {H H':Hp} (e:qy H H') {l:Ac} (h:H' l=Option.none):H l=Option.none:=by
 cases q:H l with
 | none=>rfl
 | some o=>
  rw [e l o q] at h;cases h
theorem qy.seq {K:Frag} {H H':Hp} {a:Ac} {xs:List V} (e:qy H H') (h:SqL K H a xs):SqL K H' a xs:=by
 rcases h with (h | ⟨o,h⟩) | h
 ·exact .inl (.inl (e _ _ h))
 ·exact .inl (.inr ⟨o,e _ _ h⟩)
 ·exact .inr h
section
variable {κ:Type} [DecidableEq κ]
def vq (kvs:List (κ×V)) (k:κ):Option V:=(kvs.find? fun kv=>decide (kv.1=k)).map (·.2)
def jy (kvs:List (κ×V)) (k:κ) (v:V):List (κ×V):=
 if (kvs.any fun kv=>decide (kv.1=k))=true then kvs.map (fun kv=>if kv.1=k then (kv.1,v) else kv) else kvs++[(k,v)]
theorem jI {p:κ×V} {r:List (κ×V)} {k:κ} (e:p.1=k):vq (p::r) k=some p.2:=by simp [vq,C1,e]
theorem jk {p:κ×V} {r:List (κ×V)} {k:κ} (e:¬ p.1=k):vq (p::r) k=vq r k:=by simp [vq,C1,e]
theorem JU (k:κ):∀ kvs:List (κ×V),(kvs.any fun kv=>decide (kv.1=k))=(vq kvs k).isSome
 | []=>rfl
 | p::r=>by
  rw [Ej]
  by_cases e:p.1=k
  ·simp only [jI e,An e,Bool.true_or,Option.isSome_some]
  ·rw [jk e,Ar e,Ey];exact JU k r
theorem vQ (kvs:List (κ×V)) (k:κ) (v:V):(jy kvs k v).length≤kvs.length+1:=by
 unfold jy;split
 ·rw [Ah];omega
 ·rw [Ak,Aj,Ba];omega
theorem Zo {kvs:List (κ×V)} {k:κ} (v:V) (h:vq kvs k=none):jy kvs k v=kvs++[(k,v)]:=by
 unfold jy;rw [JU,h];exact if_neg O0
theorem Vd.isSome_eq {o:Option V} {u:Option Ab} (r:Vd o u):o.isSome=u.isSome:=by
 cases o with
 | none=>cases u with
  | none=>rfl
  | some _=>exact (show False from r).elim
 | some _=>cases u with
  | none=>exact (show False from r).elim
  | some _=>rfl
theorem KV.val {kvs:List (κ×V)} {vs:List (κ×Ab)} (r:KV kvs vs) (k:κ):Vd (vq kvs k) (valueAt vs k):=by
 unfold KV at r
 induction r with
 | nil=>exact True.intro
 | @cons p q ps qs h t ih=>
  obtain ⟨h1,h2⟩:=h
  by_cases e:p.1=k
  ·have e':q.1=k:=h1.symm.trans e;have b:valueAt (q::qs) k=some q.2:=by simp [valueAt,C1,e']
   rw [jI e,b];exact h2
  ·have e':¬ q.1=k:=fun z=>e (h1.trans z);have b:valueAt (q::qs) k=valueAt qs k:=by simp [valueAt,C1,e']
   rw [jk e,b];exact ih
theorem KV.any {kvs:List (κ×V)} {vs:List (κ×Ab)} (r:KV kvs vs) (k:κ):(kvs.any fun kv=>decide (kv.1=k))=vs.any fun kv=>decide (kv.1=k):=by
 unfold KV at r
 induction r with
 | nil=>rfl
 | cons h t ih=>rw [Ej,Ej,ih,h.1]
theorem KV.repl {kvs:List (κ×V)} {vs:List (κ×Ab)} (r:KV kvs vs) (k:κ) {y:V} {u:Ab} (ry:qL y u):
  KV (kvs.map fun kv=>if kv.1=k then (kv.1,y) else kv) (vs.map fun kv=>if kv.1=k then (kv.1,u) else kv):=by
 unfold KV at r ⊢
 induction r with
 | nil=>exact .nil
 | @cons p q ps qs h t ih=>
  rw [As,As];refine .cons ?_ ih;obtain ⟨h1,h2⟩:=h
  by_cases e:p.1=k
  ·rw [if_pos e,if_pos (h1.symm.trans e)];exact ⟨h1,ry⟩
  ·rw [if_neg e,if_neg (fun z=>e (h1.trans z))];exact ⟨h1,h2⟩
theorem KV.put {kvs:List (κ×V)} {vs:List (κ×Ab)} (r:KV kvs vs) (k:κ) {y:V} {u:Ab} (ry:qL y u):KV (jy kvs k y) (stored vs k u):=by
 unfold jy stored;rw [r.any k]
 by_cases e:(vs.any fun kv=>decide (kv.1=k))=true
 ·rw [if_pos e,if_pos e];exact r.repl k ry
 ·rw [if_neg e,if_neg e];exact Paired.snoc r ⟨rfl,ry⟩
theorem KV.length {kvs:List (κ×V)} {vs:List (κ×Ab)} (r:KV kvs vs):kvs.length=vs.length:=Cw r
end
theorem qar {P:Program} {w:World} {k:Key} {u:Ab} (r:qL (kV k) u):(zb P w).is k u=true:=by
 cases k with
 | inl i=>obtain ⟨t,e⟩:=(show ∃ t,u=Value.int i t from r);subst e;exact ZF P w i t
 | inr x=>obtain ⟨t,e⟩:=(show ∃ t,u=Value.str x t from r);subst e;exact wJ P w x t
theorem YI {P:Program} {w:World}:∀ {ks:List Key} {us:List Ab},qH (ks.map kV) us→ItemsAre (zb P w) ks us
 | [],_,r=>by rw [Cd] at r;cases r;exact .nil
 | k::ks,_,r=>by
  rw [As] at r;cases r with
  | cons h t=>exact .cons (qar h) (YI t)
abbrev KT (H:Hp):List (List Key×V)→List (List Key×Ac×Ab)→Prop:=Paired fun p q=>p.1=q.1∧H q.2.1=some (.tup (p.1.map kV))∧qL p.2 q.2.2
theorem KT.val {H:Hp} {kvs:List (List Key×V)} {xs:List (List Key×Ac×Ab)} (r:KT H kvs xs) (k:List Key):Vd (vq kvs k) ((atKey xs k).map (·.2)):=by
 induction r with
 | nil=>exact True.intro
 | @cons p q ps qs h t ih=>
  obtain ⟨h1,_,h2⟩:=h
  by_cases e:p.1=k
  ·have e':q.1=k:=h1.symm.trans e;have b:atKey (q::qs) k=some q.2:=by simp [atKey,C1,e']
   rw [jI e,b];exact h2
  ·have e':¬ q.1=k:=fun z=>e (h1.trans z);have b:atKey (q::qs) k=atKey qs k:=by simp [atKey,C1,e']
   rw [jk e,b];exact ih
theorem KT.repl {H:Hp} {kvs:List (List Key×V)} {xs:List (List Key×Ac×Ab)} (r:KT H kvs xs) (k:List Key) {y:V} {u:Ab} (ry:qL y u):
  KT H (kvs.map fun kv=>if kv.1=k then (kv.1,y) else kv) (xs.map (putAt k u)):=by
 induction r with
 | nil=>exact .nil
 | @cons p q ps qs h t ih=>
  rw [As,As];refine .cons ?_ ih;obtain ⟨h1,h2,h3⟩:=h;unfold putAt
  by_cases e:p.1=k
  ·rw [if_pos e,if_pos (h1.symm.trans e)];exact ⟨h1,h2,ry⟩
  ·rw [if_neg e,if_neg (fun z=>e (h1.trans z))];exact ⟨h1,h2,h3⟩
theorem KT.put {H:Hp} {kvs:List (List Key×V)} {xs:List (List Key×Ac×Ab)} (r:KT H kvs xs) (k:List Key) {b:Ac} {y:V} {u:Ab} (hb:H b=some (.tup (k.map kV))) (ry:qL y u):
  KT H (jy kvs k y) (storedH xs k b u):=by
 have e:(kvs.any fun kv=>decide (kv.1=k))=(atKey xs k).isSome:=by
  rw [JU,(r.val k).isSome_eq,Option.isSome_map]
 unfold jy storedH;rw [e]
 by_cases q:(atKey xs k).isSome=true
 ·rw [if_pos q,if_pos q];exact r.repl k ry
 ·rw [if_neg q,if_neg q];exact Paired.snoc r ⟨rfl,hb,ry⟩
theorem KT.keeps {H H':Hp} {kvs:List (List Key×V)} {xs:List (List Key×Ac×Ab)} (r:KT H kvs xs) (ht:∀ b ys,H b=some (.tup ys)→H' b=some (.tup ys)):KT H' kvs xs:=
 Paired.mapP r fun _ _ z=>⟨z.1,ht _ _ z.2.1,z.2.2⟩
section
variable {P:Program} {w:World} {H:Hp} {h:Heap} {a:Ac}
theorem qh7 {u:HO} (ok:HOk P w H h) (e:Rd H a u):zq P w H h a u:=e.ok ok
theorem qfh {kvs:List (Key×V)} (ok:HOk P w H h) (e:Rd H a (.dK kvs)):kvs.length≤Af∧(a==sysModules)=false∧∃ vs,KV kvs vs∧h.DictOf (zb P w) a vs:=
 show zq P w H h a (.dK kvs) from qh7 ok e
theorem qic {kvs:List (Key×V)} (ok:HOk P w H h) (e:H a=some (.dK kvs)):kvs.length≤Af∧(a==sysModules)=false∧∃ vs,KV kvs vs∧h.DictOf (zb P w) a vs:=qfh ok (.inl e)
theorem QJ {ks:List Key} (ok:HOk P w H h) (e:H a=some (.tup (ks.map kV))):(tupleKind (zb P w)).is h ks a:=by
 obtain ⟨_,its,r,o,h1,h2,n,h3⟩:=(show zq P w H h a (.tup (ks.map kV)) from ok a _ e);exact ⟨o,its.toArray,n,h1,h2,h3,by simpa using YI r⟩
theorem qff {kvs:List (List Key×V)} (ok:HOk P w H h) (e:Rd H a (.dT kvs)):kvs.length≤Af∧(a==sysModules)=false∧
  ∃ xs,KT H kvs xs∧h.DictOfH (tupleKind (zb P w)) a xs:=by
 obtain ⟨z,y,xs,r,o,es,ep,h1,h2,h3,h4,h5⟩:=(show zq P w H h a (.dT kvs) from qh7 ok e);refine ⟨z,y,xs,r,o,es,ep,h1,h2,h3,h4,fun x hx=>?_,h5⟩;have all:∀ {l:List (List Key×V)} {m:List (List Key×Ac×Ab)},KT H l m→∀ x∈m,(tupleKind (zb P w)).is h x.1 x.2.1:=by
  intro l m q
  induction q with
  | nil=>intro x hx;exact nomatch hx
  | @cons p q ps qs hq t ih=>
   intro x hx;rcases Ap.mp hx with e | hx
   ·subst e;exact QJ ok (by rw [← hq.1];exact hq.2.1)
   ·exact ih x hx
 exact all r x hx
theorem qlg {kvs:List (List Key×V)} (ok:HOk P w H h) (e:H a=some (.dT kvs)):kvs.length≤Af∧(a==sysModules)=false∧
  ∃ xs,KT H kvs xs∧h.DictOfH (tupleKind (zb P w)) a xs:=qff ok (.inl e)
end
def jZ (H:Hp) (a:Ac) (y:V) (r:Option V):Prop:=
 (∃ kvs k,Rd H a (.dK kvs)∧y=kV k∧r=vq kvs k)∨∃ kvs k b,Rd H a (.dT kvs)∧y= .ref b∧H b=some (.tup (k.map kV))∧r=vq kvs k
def ZY (H:Hp) (a:Ac) (y v:V) (H':Hp):Prop:=
 (∃ kvs k,H a=some (.dK kvs)∧y=kV k∧kvs.length<Af∧H'=upd H a (.dK (jy kvs k v)))∨
 ∃ kvs k b,H a=some (.dT kvs)∧y= .ref b∧H b=some (.tup (k.map kV))∧kvs.length<Af∧H'=upd H a (.dT (jy kvs k v))
theorem jZ.k {H:Hp} {a:Ac} {kvs:List (Key×V)} {k:Key} (e:H a=some (.dK kvs)):jZ H a (kV k) (vq kvs k):= .inl ⟨kvs,k,.inl e,rfl,rfl⟩
theorem ZY.k {H:Hp} {a:Ac} {kvs:List (Key×V)} {k:Key} {v:V} (e:H a=some (.dK kvs)) (hl:kvs.length<Af):ZY H a (kV k) v (upd H a (.dK (jy kvs k v))):= .inl ⟨kvs,k,e,rfl,hl,rfl⟩
section
variable {X:Cx} {pins:List (Ac×Obj)} {σ:St} {H:Hp} {s:Ae} {a:Ac} {y v:V} {u r:Ab} {o:Option V} {A:Around} {E:Ab→Ae→Prop}
theorem Inv.big (I:Inv X pins σ H s):sysModules<s.heap.objs.size:=by
 have h:Aq<s.heap.objs.size:=(I.mod.glob.keeps I.bk).lt;exact Nat.lt_trans O0 h
theorem qcd {Q:Ab→Ae→Prop} (hu:A.units+1<cLine) (I:Inv X pins σ H s) (g:jZ H a y (some v)) (ry:qL y u) (h:∀ w' s',Inv X pins σ H s'→qL v w'→Q w' s'):
  wpAny (model X.prog X.w) A (getItem (.ref a) u) Q E s:=by
 rcases g with ⟨kvs,k,e,ey,l⟩ | ⟨kvs,k,b,e,ey,eb,l⟩
 ·subst ey;obtain ⟨z,hd,vs,rel,dd⟩:=qfh I.hok e;obtain ⟨w',hw,rw'⟩:=Vd.some_of (v:=v) (o:=valueAt vs k) (by rw [l];exact rel.val k)
  exact wpAny_getItem_of (qar ry) dd.mapOf hw (h w' _ (I.tok _) rw')
 ·subst ey;cases (show u=Value.ref b from ry);obtain ⟨z,hd,xs,rel,dd⟩:=qff I.hok e;obtain ⟨w',hw,rw'⟩:=Vd.some_of (v:=v) (o:=(atKey xs k).map (·.2)) (by rw [l];exact rel.val k)
  obtain ⟨p,hp,hp2⟩:=Option.map_eq_some_iff.mp hw;refine wpAny_getItem_heap (tupleKind_room_in1 hu) (QJ I.hok eb) dd hp ?_;rw [hp2];exact h w' _ (I.tok _) rw'
theorem XJ {h':Heap} {t':Nat} {ob:HO} (I:Inv X pins σ H s) (mu:Mut (H a)) (hs:Heap.SameBut a s.heap h') (he:∃ q,h'.get? a=some q) (new:zq X.prog X.w (upd H a ob) h' a ob):
  Inv X pins σ (upd H a ob) {s with heap:=h',toks:=t'}:=
 I.write (x:=a) (e:=a) mu (.inl rfl) (fun b q hb z=>(hs.2 b hb).trans z) he new
theorem qfi {P:Program} {w:World} {H':Hp} {h':Heap} {kvs:List (Key×V)} {vs:List (Key×Ab)} (z:kvs.length≤Af) (hd:(a==sysModules)=false) (rel:KV kvs vs) (dd:h'.DictOf (zb P w) a vs):
  zq P w H' h' a (.dK kvs):=⟨z,hd,vs,rel,dd⟩
theorem qcc {H':Hp} {Q:Unit→Ae→Prop} (hu:A.units+1<cLine) (I:Inv X pins σ H s) (g:ZY H a y v H') (ry:qL y u) (rv:qL v r) (h:∀ s',Inv X pins σ H' s'→Q () s'):
  wpAny (model X.prog X.w) A (setItem (.ref a) u r) Q E s:=by
 rcases g with ⟨kvs,k,e,ey,l,eH⟩ | ⟨kvs,k,b,e,ey,eb,l,eH⟩
 ·subst ey eH;obtain ⟨z,hd,vs,rel,dd⟩:=qic I.hok e;have hz:vs.length≤Af:=by rw [← rel.length];exact z
  have hl:(jy kvs k v).length≤Af:=by have:=vQ kvs k v;omega
  refine wpAny_setItem_pairs (hsz:=hz) (qar ry) dd fun h' dd' hs=>h _ ?_;have he:∃ q,h'.get? a=some q:=let ⟨q,_,_,hq,_⟩:=dd';⟨q,hq⟩;exact XJ I (by rw [e];exact True.intro) hs he (qfi hl hd (rel.put k rv) dd')
 ·subst ey eH;cases (show u=Value.ref b from ry);obtain ⟨z,hd,xs,rel,dd⟩:=qlg I.hok e;have hz:xs.length≤Af:=by rw [← Cw rel];exact z
  have hl:(jy kvs k v).length≤Af:=by have:=vQ kvs k v;omega
  refine wpAny_setItem_heap (hsz:=hz) (tupleKind_room_in1 hu) (QJ I.hok eb) dd fun h' dd' hs=>h _ ?_;obtain ⟨q,es,ep,hq,h2,h3,h4,_,h5⟩:=dd';refine XJ I (by rw [e];exact True.intro) hs ⟨q,hq⟩ ⟨hl,hd,_,(rel.put k eb rv).keeps fun c ys ec=>?_,q,es,ep,hq,h2,h3,h4,h5⟩
  rw [qu (ya ec e (fun z=>nomatch z))];exact ec
end
section
variable {X:Cx} {pins:List (Ac×Obj)} {σ:St} {H:Hp} {s:Ae} {a:Ac} {kvs:List (Key×V)} {k:Key} {u:Ab} {A:Around} {E:Ab→Ae→Prop}
end
def qhx (i:Expr):Prop:=∀ ov iv,subscripted i false ov iv=operate [ov,iv] (getItem ov iv)
theorem Xd {prog:Program} {w:World} {A:Around} {E:Ab→Ae→Prop} {s:Ae} {env:Env} {value slice:Expr} {pos:Pos} {T id:String} {Q:Ab→Ae→Prop}
  (hl:typeLookup (.type T) "__getitem__"=pure (some (.builtin id))) (hs:qhx slice)
  (h:wpAny (model prog w) A (eval value env) (fun o s₁=>wpAny (model prog w) A (eval slice env) (fun i s₂=>s₂.TypeIs o T∧wpAny (model prog w) A (getItem o i) Q E s₂) E s₁) E s):
  wpAny (model prog w) A (eval (.Subscript value slice pos) env) Q E s:=by
 refine Subscript_ (C9 h (fun o s₁ h₁=>C9 h₁ (fun i s₂ h₂=>?_) fun _ _ x=>x) fun _ _ x=>x);obtain ⟨hT,h₂⟩:=h₂;unfold subscriptTail;refine Am ?_;rw [getitemInPython_of_ne hT.not_modules];refine Am (wpAny_specialOf hT hl ?_);have fin:wpAny (model prog w) A (subscripted slice false o i) (fun r s₃=>wpAny (model prog w) A (letTemporaryGo value o r>>=fun _=>pure r) Q E s₃) E s₂:=by
  rw [hs o i];exact wpAny_operating (C9 h₂ (fun r s₃ h₃=>Am (wpAny_letTemporaryGo (A8 h₃))) fun _ _ x=>x)
 first
  | exact A8 (Am fin)
  | exact Am (A8 (Am fin))
  | exact Am fin
theorem ZR {X:Cx} {pins:List (Ac×Obj)} {σ:St} {H:Hp} {s:Ae} {a:Ac} {y:V} {o:Option V} (I:Inv X pins σ H s) (g:jZ H a y o):s.TypeIs (.ref a) "dict":=by
 rcases g with ⟨kvs,k,e,_,_⟩ | ⟨kvs,k,b,e,_,_,_⟩
 ·obtain ⟨_,_,vs,_,dd⟩:=qfh I.hok e;exact dd.typeIs
 ·obtain ⟨_,_,xs,_,dd⟩:=qff I.hok e;exact dd.typeIs
def Ys (td ty:TE):TE:=fun σ H Q=>td σ H fun x H1=>ty σ H1 fun y H2=>∃ a v,x= .ref a∧jZ H2 a y (some v)∧Q v H2
def qh6 (td ty tv:TE):TS:=fun D σ H=>tv σ H fun v H1=>td σ H1 fun x H2=>ty σ H2 fun y H3=>∃ a H4,x= .ref a∧ZY H3 a y v H4∧D.nx σ H4
section
variable {X:Cx} {o i e value:Expr} {pos pos' tpos:Pos} {td ty tv:TE}
theorem zH (hu:X.A.units+1<cLine) (ho:PE X o td) (hi:PE X i ty) (hs:qhx i):PE X (.Subscript o i pos) (Ys td ty):=by
 intro pins s σ H Q I h;refine Xd PySem.F.slot_dict_getitem.lookup hs (thn (ho pins s σ H _ I h) fun u s1 ⟨x,H1,I1,rx,q1⟩=>thn (hi pins s1 σ H1 _ I1 q1) fun iv s2 ⟨y,H2,I2,ry,a,v,ex,g,q2⟩=>?_);subst ex;obtain rfl:u=Value.ref a:=rx;exact ⟨ZR I2 g,qcd hu I2 g ry fun w' s3 I3 rw'=>⟨v,H2,I3,rw',q2⟩⟩
theorem Wo (hu:X.A.units+1<cLine) (ho:PE X o td) (hi:PE X i ty) (hv:PE X value tv) (hs:swapsWith value (some (.Subscript o i pos')) pos.line X.env=pure false):
  PS X (.Assign [.Subscript o i pos'] value pos) (qh6 td ty tv):=by
 intro pins s σ H D I h;refine wpAny_Assign_Subscript (thn (hv pins s σ H _ I h) fun r s1 ⟨v,H1,I1,rv,q1⟩=>thn (ho pins s1 σ H1 _ I1 q1) fun u s2 ⟨x,H2,I2,rx,q2⟩=>thn (hi pins s2 σ H2 _ I2 q2) fun iv s3 ⟨y,H3,I3,ry,a,H4,ex,g,q3⟩=>?_) hs;subst ex;obtain rfl:u=Value.ref a:=rx;exact qcc hu I3 g ry rv fun s4 I4=>⟨σ,H4,I4,q3⟩
end
theorem qfj {P:Program} {w:World} {H:Hp} (h:Heap) (hb:sysModules<h.objs.size):zq P w H (h.push {cls:= .type "dict",data:= .dict #[]}) h.objs.size (.dK []):=
 ⟨Bm _,Bf.mpr (Ne.symm (Bu hb)),[],.nil,Heap.DictOf.new h⟩
section
variable {X:Cx} {pos:Pos}
end
def Z7:List (TE×TE)→St→Hp→(List (V×V)→Hp→Prop)→Prop
 | [],_,H,Q=>Q [] H
 | (tk,tv)::r,σ,H,Q=>tk σ H fun x H1=>tv σ H1 fun y H2=>Z7 r σ H2 fun ps H3=>Q ((x,y)::ps) H3
abbrev VV:List (V×V)→List (Ab×Ab)→Prop:=Paired fun p q=>qL p.1 q.1∧qL p.2 q.2
def PPs (X:Cx) (pos:Pos) (keys:List (Option Expr)) (values:List Expr) (trs:List (TE×TE)):Prop:=
 ∀ (pins:List (Ac×Obj)) (s:Ae) (σ:St) (H:Hp) (Q:List (V×V)→Hp→Prop),Inv X pins σ H s→Z7 trs σ H Q→
  wpAny (model X.prog X.w) X.A (evalPairs (pairTrees keys values X.env pos)) (fun vs s'=>∃ ps H',Inv X pins σ H' s'∧VV ps vs∧Q ps H') X.xe s
theorem qaf {X:Cx} {pos:Pos}:PPs X pos [] [] []:=fun pins s σ H Q I h=>pairTrees_nil_walk ⟨[],H,I,.nil,h⟩
theorem JV {X:Cx} {pos:Pos} {k v:Expr} {ks:List (Option Expr)} {vs:List Expr} {tk tv:TE} {trs:List (TE×TE)} (hk:PE X k tk) (hv:PE X v tv) (hr:PPs X pos ks vs trs):
  PPs X pos (some k::ks) (v::vs) ((tk,tv)::trs):=fun pins s σ H Q I h=>
 pairTrees_cons_walk (thn (hk pins s σ H _ I h) fun u s1 ⟨x,H1,I1,rx,q1⟩=>thn (hv pins s1 σ H1 _ I1 q1) fun w2 s2 ⟨y,H2,I2,ry,q2⟩=>
  thn (hr pins s2 σ H2 _ I2 q2) fun ws s3 ⟨ps,H3,I3,rel,q3⟩=>⟨(x,y)::ps,H3,I3,.cons ⟨rx,ry⟩ rel,q3⟩)
def vO (kvs more:List (Key×V)):List (Key×V):=more.foldl (fun acc kv=>jy acc kv.1 kv.2) kvs
theorem KV.merge:∀ {more:List (Key×V)} {rs:List (Key×Ab)} {kvs:List (Key×V)} {vs:List (Key×Ab)},KV more rs→KV kvs vs→KV (vO kvs more) (merged vs rs):=by
 intro more rs kvs vs r;unfold KV at r
 induction r generalizing kvs vs with
 | nil=>intro q;exact q
 | @cons p q ps qs h t ih=>
  intro r0;have e:KV (jy kvs p.1 p.2) (stored vs q.1 q.2):=by
   have:=r0.put p.1 h.2;rw [← h.1];exact this
  exact ih e
theorem Vj:∀ (more kvs:List (Key×V)),(vO kvs more).length≤kvs.length+more.length
 | [],kvs=>by show kvs.length≤kvs.length+0;omega
 | p::r,kvs=>by
  have h1:=Vj r (jy kvs p.1 p.2);have h2:=vQ kvs p.1 p.2;show (vO (jy kvs p.1 p.2) r).length≤_;rw [Aj];omega
theorem yq {P:Program} {w:World}:∀ {kvs:List (Key×V)} {ws:List (Ab×Ab)},VV (kvs.map fun kv=>(kV kv.1,kv.2)) ws→∃ rs,Carries (zb P w) ws rs∧KV kvs rs
 | [],_,r=>by rw [Cd] at r;cases r;exact ⟨[],True.intro,.nil⟩
 | p::kvs,_,r=>by
  rw [As] at r;cases r with
  | @cons a b as bs h t=>
   obtain ⟨rs,c,q⟩:=yq (P:=P) (w:=w) t;obtain ⟨b1,b2⟩:=b;exact ⟨(p.1,b2)::rs,⟨qar h.1,rfl,c⟩,.cons ⟨rfl,h.2⟩ q⟩
def qh4 (trs:List (TE×TE)):TE:=fun σ H Q=>∀ p,H p=none→Z7 trs σ (upd H p (.dK [])) fun ps H2=>H2 p=some (.dK [])∧∃ kvs:List (Key×V),ps=kvs.map (fun kv=>(kV kv.1,kv.2))∧kvs.length≤15∧Q (.ref p) (upd H2 p (.dK (vO [] kvs)))
theorem qai {X:Cx} {pos:Pos} {keys:List (Option Expr)} {values:List Expr} {trs:List (TE×TE)} (h:PPs X pos keys values trs) (hall:keys.all (·.isSome)=true) (hl:keys.length=values.length) (h0:keys≠[])
  (h15:keys.length≤15):PE X (.Dict keys values pos) (qh4 trs):=by
 intro pins s σ H Q I q;have hn:=I.hok.fresh (Ax s.heap.objs.size);have I1:=I.laid (a:=s.heap.objs.size) (o:= .dK []) (h':=s.heap.push {cls:= .type "dict",data:= .dict #[]}) (t':=s.toks) (fun _ _ q=>Av _ q) (Ax _) (qfj s.heap I.big);refine wpAny_Dict_walk (knd:=zb X.prog X.w) hall hl h0 h15 (thn (h pins _ σ _ _ I1 (q _ hn)) fun ws s2 ⟨ps,H2,I2,rel,e,kvs,ep,lk,q2⟩=>?_);subst ep;obtain ⟨rs,c,rk⟩:=yq (P:=X.prog) (w:=X.w) rel;obtain ⟨z,hd,vs0,r0,dd⟩:=qic I2.hok e;cases r0;refine ⟨rs,c,dd,fun h' dd' hs=>⟨.ref s.heap.objs.size,_,?_,rfl,q2⟩⟩;have hz:(vO [] kvs).length≤Af:=by
  have h1:=Vj kvs [];rw [Ba] at h1;rw [Ed];omega
 have he:∃ q,h'.get? s.heap.objs.size=some q:=let ⟨q,_,_,hq,_⟩:=dd';⟨q,hq⟩;exact XJ I2 (by rw [e];exact True.intro) hs he (qfi hz hd (rk.merge .nil) dd')
section
variable {X:Cx} {pins:List (Ac×Obj)} {σ:St} {H:Hp} {s:Ae} {a:Ac} {y d:V} {u r:Ab} {o:Option V} {A:Around} {E:Ab→Ae→Prop}
end
section
variable {X:Cx} {o e f:Expr} {apos cpos:Pos} {td ty tx:TE}
end
section
variable {X:Cx} {pins:List (Ac×Obj)} {σ:St} {H:Hp} {s:Ae} {a:Ac} {kvs:List (Key×V)} {A:Around} {E:Ab→Ae→Prop}
end
section
variable {X:Cx} {pins:List (Ac×Obj)} {σ:St} {H:Hp} {s:Ae} {a:Ac} {y:V} {u:Ab} {A:Around} {E:Ab→Ae→Prop}
end
section
variable {X:Cx}
end
section
variable {κ:Type} [DecidableEq κ]
end
end L2
set_option maxHeartbeats 4000000
set_option maxRecDepth 100000
namespace L2
open PySem PySem.Spec PyProof.Rows
theorem Inv.track {X:Cx} {pins:List (Ac×Obj)} {σ:St} {H:Hp} {s:Ae} {D:Ac} {o:HO} (I:Inv X pins σ H s) (f:vn X pins H D) (new:zq X.prog X.w (upd H D o) s.heap D o):Inv X pins σ (upd H D o) s:=by
 obtain ⟨f0,f1,f2,f3,f4,f5⟩:=f;show Inv X pins σ (upd H D o) {s with heap:=s.heap,gens:=s.gens,drawn:=s.drawn,toks:=s.toks}
 refine I.step (g':=s.gens) (d':=s.drawn) (t':=s.toks) (h':=s.heap) (ch:=[D]) (fun b hb=>?_) (fun b o _ _ _ e _=>e) (fun b o _ _ _ e _=>⟨o.slots,e⟩) (fun b ob hc e n=>?_) (fun b ob _ e=>⟨ob,e⟩)
  (fun b xs e=>?_) (fun b ob u e=>?_) (fun b ps e=>⟨#[],?_⟩) (fun m hm=>hm) (fun b u e=>?_) I.bare
 ·have z:b=D:=by simpa using hb
  subst z;exact ⟨f3,f1,f4,f5⟩
 ·rw [qu (fun z=>hc (by simp [z]))];exact n
 ·rw [qu (qC e f0)];exact e
 ·rw [qu (qC e f0)];exact e
 ·rw [qu (qC e f0),e];simp
 ·by_cases hb:b=D
  ·subst hb;rw [upd_same] at e;cases e;exact new
  ·rw [qu hb] at e;exact (I.hok b u e).stay (fun c v _ q=>q) (fun c q=>by rw [qu (qC q f0)];exact q) fun c xs q=>by rw [qu (qC q f0)];exact q
theorem vT {env:Env} {f:Str×NameKind→List (Str×Ac)→Sem (ForInStep (List (Str×Ac)))} (h1:∀ n k cs,k≠ .free→f (n,k) cs=pure (.yield cs))
  (h2:∀ n cs c,env.cells.lookup n=some c→f (n,.free) cs=pure (.yield ((n,c)::cs))):∀ (names:List (Str×NameKind)) (acc:List (Str×Ac)),(∀ y∈names,y.2= .free→∃ c,env.cells.lookup y.1=some c)→
   ∃ cl,forIn names acc f=pure cl∧(∀ x c,cl.lookup x=some c→acc.lookup x=some c∨env.cells.lookup x=some c)∧(∀ x,(acc.lookup x).isSome=true→(cl.lookup x).isSome=true)∧
    ∀ y∈names,y.2= .free→(cl.lookup y.1).isSome=true
 | [],acc,_=>⟨acc,rfl,fun x c e=> .inl e,fun x e=>e,fun y hy=>absurd hy (by simp)⟩
 | (n,k)::r,acc,h=>by
  have hr:∀ y∈r,y.2= .free→∃ c,env.cells.lookup y.1=some c:=fun y hy=>h y (Ao _ hy)
  by_cases hk:k= .free
  ·subst hk;obtain ⟨c,hc⟩:=h (n,.free) Au rfl;obtain ⟨cl,e,a1,a2,a3⟩:=vT h1 h2 r ((n,c)::acc) hr;refine ⟨cl,by rw [En,h2 n acc c hc,pure_bind];exact e,fun x d hx=>?_,fun x hx=>a2 x ?_,fun y hy hf=>?_⟩
   ·rcases a1 x d hx with q | q
    ·rw [Bg] at q;cases z:x==n with
     | true=>
      rw [z] at q;have z':x=n:=by simpa using z
      subst z';cases q;exact .inr hc
     | false=>rw [z] at q;exact .inl q
    ·exact .inr q
   ·rw [Bg];cases x==n with
    | true=>rfl
    | false=>exact hx
   ·rcases Ap.mp hy with z | z
    ·subst z;refine a2 n ?_;rw [Bg];simp
    ·exact a3 y z hf
  ·obtain ⟨cl,e,a1,a2,a3⟩:=vT h1 h2 r acc hr;refine ⟨cl,by rw [En,h1 n k acc hk,pure_bind];exact e,a1,a2,fun y hy hf=>?_⟩
   rcases Ap.mp hy with z | z
   ·subst z;exact absurd hf hk
   ·exact a3 y z hf
theorem Vs {scope:Scope} {env:Env} (h:∀ y∈scope.names,y.2= .free→∃ c,env.cells.lookup y.1=some c):
  ∃ cl,closureFor scope env=pure cl∧(∀ x c,cl.lookup x=some c→env.cells.lookup x=some c)∧∀ y∈scope.names,y.2= .free→∃ c,cl.lookup y.1=some c:=by
 obtain ⟨cl,e,a1,_,a3⟩:=vT (env:=env) (f:=fun x r=>if (x.2==NameKind.free)=true then (do let c ← cellOf env x.1;pure (ForInStep.yield ((x.1,c)::r))) else pure (ForInStep.yield r)) (fun n k cs hk=>by
  have z:(k==NameKind.free)=false:=by simpa using hk
  simp only [z,Dc,if_false]) (fun n cs c hc=>by
  simp only [beq_self_eq_true,if_true,cellOf,hc,pure_bind]) scope.names [] h
 simp only [closureFor];refine ⟨cl,by rw [e,pure_bind],fun x c q=>?_,fun y hy hf=>Cz.mp (a3 y hy hf)⟩
 rcases a1 x c q with z | z
 ·cases z
 ·exact z
theorem Xk {scope:Scope} {env:Env} {x:Str} (hcell:∀ y∈scope.names,y.2≠ .cell) (h:(relabel scope env).names.lookup x=some .cell∨(relabel scope env).names.lookup x=some .free):scope.names.lookup x=some .free:=by
 unfold relabel at h;dsimp only at h;generalize scope.names=l at h hcell
 induction l with
 | nil=>rcases h with h | h <;> cases h
 | cons y r ih=>
  obtain ⟨n,k⟩:=y;have hr:∀ y∈r,y.2≠ .cell:=fun y hy=>hcell y (Ao _ hy);have hk:k≠ .cell:=hcell (n,k) Au;rw [As] at h;dsimp only at h;rw [Bg];cases hx:x==n with
  | true=>
   dsimp only
   by_cases hc:(k==NameKind.free&&env.scope.kind== .function&&env.kindOf n==some .cell)=true
   ·simp only [Al,Az] at hc;rw [hc.1.1]
   ·rw [if_neg hc,Bg,hx] at h;dsimp only at h;rcases h with h | h
    ·exact absurd (Bb h) hk
    ·exact h
  | false=>
   dsimp only;refine ih ?_ hr
   by_cases hc:(k==NameKind.free&&env.scope.kind== .function&&env.kindOf n==some .cell)=true
   ·rw [if_pos hc,Bg,hx] at h;exact h
   ·rw [if_neg hc,Bg,hx] at h;exact h
theorem VH {scope:Scope} {env:Env} {x:Str} (h:scope.names.lookup x=some .free):(relabel scope env).names.lookup x=some .cell∨(relabel scope env).names.lookup x=some .free:=by
 unfold relabel;dsimp only;generalize scope.names=l at h
 induction l with
 | nil=>cases h
 | cons y r ih=>
  obtain ⟨n,k⟩:=y;rw [Bg] at h;rw [As];dsimp only;cases hx:x==n with
  | true=>
   rw [hx] at h;have hk:k= .free:=Bb h;subst hk
   by_cases hc:(NameKind.free==NameKind.free&&env.scope.kind== .function&&env.kindOf n==some .cell)=true
   ·rw [if_pos hc,Bg,hx];exact .inl rfl
   ·rw [if_neg hc,Bg,hx];exact .inr rfl
  | false=>
   rw [hx] at h
   by_cases hc:(k==NameKind.free&&env.scope.kind== .function&&env.kindOf n==some .cell)=true
   ·rw [if_pos hc,Bg,hx];exact ih h
   ·rw [if_neg hc,Bg,hx];exact ih h
theorem JB {scope:Scope} {env:Env} {x:Str} (h:scope.names.lookup x=some .free):¬ (relabel scope env).names.lookup x=some .local:=fun e=>by
 rcases VH (env:=env) h with q | q <;> (rw [e] at q;cases q)
def cxC (X:Cx) (scope:Scope) (cl:List (Str×Ac)) (C:Ac) (N:List Str) (fp:List Ac) (s:Ae) (H:Hp):Cx where
 prog:=X.prog
 w:=X.w
 K:=X.K
 mg:=X.mg
 base:=X.base
 A:=X.A
 N:=N
 s₀:=s
 H₀:=H
 env:=compEnvC scope cl C X.env
 outer:=X.stack
 stack:=X.stack
 ex:=fp
 fn:=fun _=>false
 calm:=X.calm
 pn:=[]
 xe:=fun _ _=>False
def zD (js:List (Option Nat)) (σ:St):St:=js.map fun j=>match j with
 | some i=>(σ[i]?).join
 | none=>none
structure CompScope (sc scope:Scope) (NX N:List Str) (js:List (Option Nat)):Prop where
 cell:∀ y∈scope.names,y.2≠ .cell
 kind:scope.kind= .function
 names:∀ y∈scope.names,y.2= .local→scope.names.lookup y.1=some .local
 free:∀ y∈scope.names,y.2= .free→sc.names.lookup y.1=some .cell∨sc.names.lookup y.1=some .free
 len:js.length=N.length
 out:∀ p∈js.zip N,∀ j∈p.1,NX[j]?=some p.2∧scope.names.lookup p.2=some .free
def PF (X:Cx) (ifs:List Expr) (t:TT):Prop:=
 ∀ (pins:List (Ac×Obj)) (s:Ae) (σ:St) (H:Hp) (Q:Bool→Hp→Prop),Inv X pins σ H s→t σ H Q→
  wpAny (model X.prog X.w) X.A (forIn ifs true fun c r=>if r=true then do let ok ← isTrue c X.env (eval c X.env);pure (ForInStep.yield ok) else pure (ForInStep.yield r)) (TP X pins σ Q) X.xe s
def Zb:TT:=fun _ H Q=>Q true H
theorem jN {X:Cx}:PF X [] Zb:=fun _ _ _ H _ I h=>by
 rw [List.forIn_nil];exact A8 ⟨H,I,h⟩
section
variable {prog:Program} {w:World} {A:Around} {R:Result→Ae→Prop} {s:Ae}
theorem VX {elt target iter:Expr} {ifs:List Expr} {scope:Scope} {pos:Pos} {it acc:Ab} {env:Env} (I:Nat→Ae→Prop)
  (turn:∀ n s,I n s→wpAny (model prog w) A (pyNext it) (fun r s₁=>match r with
   | none=>R (.ok .next) s₁
   | some v=>wpAny (model prog w) A (letOwnedTupleGo target it v) (fun _ s₀=>wpAny (model prog w) A (assign target env v) (fun _ s₂=>
     wpAny (model prog w) A (forIn ifs true fun c r=>if r=true then do let ok ← isTrue c env (eval c env);pure (ForInStep.yield ok) else pure (ForInStep.yield r)) (fun ok s₃=>
      if ok=true then wpAny (model prog w) A (eval elt env) (fun x s₄=>
       wpAny (model prog w) A (call (.builtin "list.append") [acc,x]) (fun _ s₅=>∃ m,m<n∧I m s₅) (fun _ _=>False) s₄) (fun _ _=>False) s₃
      else ∃ m,m<n∧I m s₃) (fun _ _=>False) s₂) (fun _ _=>False) s₀) (fun _ _=>False) s₁) (fun _ _=>False) s)
  (n:Nat) (h:I n s):codeAny (model prog w) A (.compLoop (.ListComp elt [⟨target,iter,ifs,0⟩] scope pos) 0 it acc env) R s:=by
 refine codeAny_loop rfl I (fun n s hI=>?_) n h;show wpAny _ A ((compTurn (.ListComp elt [⟨target,iter,ifs,0⟩] scope pos) 0 it acc env).onRaise (fun x=>do noteFrame x env;theTreesLotGoes x)) _ _ s
 refine wpAny_noted ?_;rw [compTurn_list];refine C9 (E:=fun _ _=>False) ?_ (fun _ _ q=>q) fun _ _ f=>f.elim;refine Am (wpAny_standAt (Am (thn (turn n s hI) (fun r s₁ h₁=>?_))));cases r with
 | none=>exact A8 h₁
 | some v=>
  refine Am (thn h₁ fun _ s₀ h₀=>?_);refine Am (thn h₀ (fun _ s₂ h₂=>Am (thn h₂ (fun ok s₃ h₃=>?_))));cases ok with
  | false=>exact A8 ⟨rfl,h₃⟩
  | true=>
   exact Am (Am (thn h₃ (fun x s₄ h₄=>Am (thn h₄ (fun _ s₅ h₅=>A8 (A8 ⟨rfl,h₅⟩))))))
end
def Q0 (js:List (Option Nat)) (g:TG):Prop:=∀ (σ:St) (x:V) (H:Hp) (Q:St→Hp→Prop),g x (zD js σ) H Q→
 g x (zD js σ) H fun σ3 H3=>(σ3.length=(zD js σ).length∧∀ (i:Nat) v,(zD js σ)[i]?=some (some v)→σ3[i]?=some (some v))∧Q σ3 H3
def qa7 (J:It) (js:List (Option Nat)) (g:TG) (tt:TT) (te:TE) (σ:St) (H1:Hp) (Q:VK):Prop:=∃ W:Nat→Nat→List V→Hp→Prop,(∃ m,W 0 m [] H1)∧
 ∀ i m ys H',W i m ys H'→ys.length≤Af∧((J.stop i H'∧∀ D,H' D=none→Q (.ref D) (upd H' D (.lst ys)))∨
  (J.go i H'∧∃ N:List V→Hp→Prop,(∀ ys H,N ys H→∃ m',m'<m∧W (i+1) m' ys H)∧
   ∀ x H2,J.yld i H' x H2→g x (zD js σ) H2 fun σ3 H3=>tt σ3 H3 fun ok H4=>if ok=true then te σ3 H4 fun y H5=>N (ys++[y]) H5 else N ys H4))
def wB (wi:TI) (js:List (Option Nat)) (g:TG) (tt:TT) (te:TE):TE:=fun σ H Q=>wi σ H fun J H1=>qa7 J js g tt te σ H1 Q
theorem ji {J:It} {js:List (Option Nat)} {g:TG} {tt:TT} {te:TE} {σ:St} {H1:Hp} {Q:VK} (n:Nat) (Pv:Nat→List V→Hp→Prop) (h0:Pv 0 [] H1) (hl:∀ i ys H,Pv i ys H→ys.length≤i) (hz:n≤Af)
  (hs:∀ i ys H,i<n→Pv i ys H→J.go i H∧∀ x H2,J.yld i H x H2→g x (zD js σ) H2 fun σ3 H3=>tt σ3 H3 fun ok H4=>if ok=true then te σ3 H4 fun y H5=>Pv (i+1) (ys++[y]) H5 else Pv (i+1) ys H4)
  (hd:∀ ys H,Pv n ys H→J.stop n H∧∀ D,H D=none→Q (.ref D) (upd H D (.lst ys))):qa7 J js g tt te σ H1 Q:=by
 refine ⟨fun i m ys H=>m=n - i∧i≤n∧Pv i ys H,⟨n,by simp,Bm _,h0⟩,?_⟩
 rintro i m ys H ⟨rfl,hi,p⟩;refine ⟨Aw (hl i ys H p) (Aw hi hz),?_⟩
 by_cases hlt:i<n
 ·obtain ⟨a,b⟩:=hs i ys H hlt p;exact .inr ⟨a,Pv (i+1),fun ys' H' p'=>⟨n - (i+1),⋯,rfl,hlt,p'⟩,b⟩
 ·have e:i=n:=⋯;subst e;exact .inl (hd ys H p)
theorem zX {js:List (Option Nat)} {k:Nat} (h:js[k]?=some none):Q0 js (qE k):=fun σ x H Q q=>by
 refine ⟨⟨by rw [Ds],fun i v e=>?_⟩,q⟩
 by_cases hik:k=i
 ·subst hik;unfold zD at e;rw [Bq,h] at e;cases e
 ·rw [Dv hik];exact e
theorem qak {K:Frag} {js:List (Option Nat)} {k l:Nat} (h:js[k]?=some none) (h':js[l]?=some none):Q0 js (XI K 2 (Jk (qE k) (Jk (qE l) ZM))):=fun σ x H Q q=>by
 obtain ⟨a,xs,e1,e2,e3,v,r,rfl,v2,r2,rfl,rfl,q⟩:=q;have key:∀ {i:Nat} {z:V},(zD js σ)[i]?=some (some z)→i≠k∧i≠l:=fun {i z} e=>by
  unfold zD at e;rw [Bq] at e;refine ⟨fun q=>?_,fun q=>?_⟩
  ·subst q;rw [h] at e;cases e
  ·subst q;rw [h'] at e;cases e
 refine ⟨a,_,e1,e2,e3,v,_,rfl,v2,_,rfl,rfl,⟨by rw [Ds,Ds],fun i z e=>?_⟩,q⟩
 obtain ⟨n1,n2⟩:=key e;rw [Dv (Ne.symm n2),Dv (Ne.symm n1)];exact e
section
variable {X:Cx} {sc scope:Scope} {NX N:List Str} {js:List (Option Nat)} {elt iter tg:Expr} {ifs:List Expr} {pos:Pos} {wi:TI} {g:TG} {tt:TT} {te:TE}
theorem ZU {pins:List (Ac×Obj)} {σ:St} {H2:Hp} {s2:Ae} {fp:List Ac} {cl:List (Str×Ac)} {h1:Heap} {tk:Nat} (hsc:X.env.scope=sc) (hNX:X.N=NX) (ok:CompScope sc scope NX N js) (I2:Inv X pins σ H2 s2)
  (cl1:∀ x c,cl.lookup x=some c→X.env.cells.lookup x=some c) (cl2:∀ y∈scope.names,y.2= .free→∃ c,cl.lookup y.1=some c) (f2:∀ b∈fp,vn X pins H2 b) (hfp:∀ b∈fp,b<s2.heap.objs.size)
  {C:Ac} (hC:s2.heap.objs.size≤C) (old:∀ b o,s2.heap.get? b=some o→h1.get? b=some o) (hns:h1.Ns C fun _=>none):
  Inv (cxC X scope cl C N fp s2 H2) [] (zD js σ) H2 {s2 with heap:=h1,toks:=tk}:=by
 have cOld:∀ x c,X.env.cells.lookup x=some c→c<s2.heap.objs.size:=fun x c e=>by
  obtain ⟨v,z⟩:=I2.cell x c e;exact z.lt
 refine ⟨⟨I2.ok.mod,?_,I2.ok.glob,I2.ok.blt,hC,fun x y c e1 e2=>I2.ok.inj x y c (cl1 x c e1) (cl1 y c e2),fun x hx=>?_,fun x c hf _=>absurd hf Ai,I2.ok.hd,I2.ok.frames,.inl rfl,fun b hb=>⟨Bu (Bj (hfp b hb) hC),fun x c e=>(f2 b hb).2.2.2.2.1 x c (cl1 x c e)⟩,
  I2.bs,Aw I2.ok.bsz I2.sz,fun b o e hb=>?_,fun b hb z=>?_,I2.stack,I2.stkFree⟩,rfl,I2.bare,Un.kept old,⟨_,hns,fun i x v e1 e2 e3=>?_⟩,fun x c e=>?_,I2.hok.fresh hC,fun x c e=>I2.freeC x c (cl1 x c e),fun p hp=>absurd (show p∈([]:List (Ac×Obj)) from hp) (by simp),I2.hok.kept old,?_⟩
 ·exact ok.kind
 ·have q:scope.names.lookup x=some .free:=Xk ok.cell hx;exact cl2 (x,.free) (A5 q) rfl
 ·rcases (f2 b hb).2.2.2.1 with z | z
  ·exact I2.ok.noex b o e z
  ·exact absurd (Bj (A7 (I2.ok.bs b o e).1) z) (Cq _)
 ·rcases Ap.mp (I2.stkSub b z) with q | q
  ·exact (f2 b hb).2.1 q
  ·exact (f2 b hb).2.2.1 q
 ·have e1':N[i]?=some x:=e1;have e2':(zD js σ)[i]?=some (some v):=e2;unfold zD at e2';rw [Bq] at e2';cases hj:js[i]? with
  | none=>rw [hj] at e2';cases e2'
  | some oj=>
   rw [hj] at e2';cases oj with
   | none=>cases e2'
   | some j=>
    have e4:(σ[j]?).join=some v:=Bb e2';have e5:σ[j]?=some (some v):=by
     cases z:σ[j]? with
     | none=>rw [z] at e4;cases e4
     | some ov=>
      rw [z] at e4;have e6:ov=some v:=e4;rw [e6]
    have hz:(some j,x)∈js.zip N:=by
     refine Bx (i:=i) ?_;rw [C6];exact ⟨hj,e1'⟩
    obtain ⟨q1,q2⟩:=ok.out _ hz j rfl;have q3:=ok.free (x,.free) (A5 q2) rfl;rw [← hsc] at q3;obtain ⟨m,hn,hl⟩:=I2.loc;obtain ⟨u,r,l⟩:=hl j x v (by rw [hNX];exact q1) e5 (.inr q3)
    refine ⟨u,r,.inr ?_⟩;rcases l with ⟨k,_⟩ | ⟨_,c,hc,hcell⟩
    ·have k':X.env.scope.names.lookup x=some .local:=k;rcases q3 with q3 | q3 <;> (rw [k'] at q3;cases q3)
    ·obtain ⟨c',hc'⟩:=cl2 (x,.free) (A5 q2) rfl;have ec:=cl1 x c' hc';rw [hc] at ec;cases ec;refine ⟨?_,c,hc',?_⟩
     ·have e3':Vis (relabel scope X.env) x:=e3;rcases e3' with e3' | e3' | e3'
      ·have:=JB q2 (env:=X.env);exact absurd e3' this
      ·exact .inl e3'
      ·exact .inr e3'
     ·obtain ⟨o,ho,hd⟩:=hcell;exact ⟨o,old _ _ ho,hd⟩
 ·obtain ⟨v,o,ho,hd⟩:=I2.cell x c (cl1 x c e);exact ⟨v,o,old _ _ ho,hd⟩
 ·show (zD js σ).length=N.length;unfold zD;rw [Ah,ok.len]
theorem YU {pins:List (Ac×Obj)} {σ:St} {H2:Hp} {s2:Ae} {it:Ac} {fp:List Ac} {tn:Nat→Heap→Prop} {J:It} {cl:List (Str×Ac)} {Q:VK} {E:Ab→Ae→Prop} {RR:Ab→Ac→Result→Ae→Prop}
  (hsc:X.env.scope=sc) (hNX:X.N=NX) (ok:CompScope sc scope NX N js) (hc:X.calm=true) (I2:Inv X pins σ H2 s2)
  (cl1:∀ x c,cl.lookup x=some c→X.env.cells.lookup x=some c) (cl2:∀ y∈scope.names,y.2= .free→∃ c,cl.lookup y.1=some c)
  (T:Turn X.prog X.w X.K tg J fp it tn) (st2:tn 0 s2.heap) (f2:∀ b∈fp,vn X pins H2 b)
  (hg:∀ C,PG (cxC X scope cl C N fp s2 H2) tg g) (ht:∀ C,PF (cxC X scope cl C N fp s2 H2) ifs tt) (he:∀ C,PE (cxC X scope cl C N fp s2 H2) elt te)
  (own:Q0 js g) {W:Nat→Nat→List V→Hp→Prop} {m0:Nat} (w0:W 0 m0 [] H2)
  (turn:∀ i m ys H',W i m ys H'→ys.length≤Af∧((J.stop i H'∧∀ D,H' D=none→Q (.ref D) (upd H' D (.lst ys)))∨
   (J.go i H'∧∃ N:List V→Hp→Prop,(∀ ys H,N ys H→∃ m',m'<m∧W (i+1) m' ys H)∧
    ∀ x H2,J.yld i H' x H2→g x (zD js σ) H2 fun σ3 H3=>tt σ3 H3 fun ok H4=>if ok=true then te σ3 H4 fun y H5=>N (ys++[y]) H5 else N ys H4)))
  (fin:∀ D C m s' Hf,Inv X pins σ Hf s'→s'.heap.Ns C m→vn X pins Hf C→Q (.ref D) Hf→RR (.ref D) C (.ok .next) s'):
  wpAny (model X.prog X.w) X.A (newList []) (fun acc s₃=>wpAny (model X.prog X.w) X.A (newFunctionEnv scope X.env.globals cl [] X.env.qual none .none (some X.env)) (fun cenv s₄=>
   codeAny (model X.prog X.w) X.A (.compStart (.ListComp elt [⟨tg,iter,ifs,0⟩] scope pos) 0 (.ref it) acc {cenv with scope:=relabel scope X.env}) (RR acc cenv.locals) s₄) E s₃) E s2:=by
 refine C8 (wpAny_newFunctionEnv ok.cell (by intro y hy;simp at hy) (fun h₁ hns₁ hsb₁=>?_) ok.kind)
 dsimp only at hns₁ hsb₁ ⊢;generalize hHH:s2.heap.push {cls:= .type "list",dict:=none,data:= .seq ([]:List Ab).toArray}=HH at hns₁ hsb₁ ⊢;have hCe:HH.objs.size=s2.heap.objs.size+1:=by rw [← hHH,Cp]
 obtain ⟨D,hD⟩:∃ D:Nat,D=s2.heap.objs.size:=⟨_,rfl⟩;obtain ⟨C,hC⟩:∃ C:Nat,C=HH.objs.size:=⟨_,rfl⟩;rw [← hC] at hCe hns₁ hsb₁ ⊢;rw [← hD] at hCe ⊢;have hDC:D≠C:=⋯;have hCle:s2.heap.objs.size≤C:=⋯;have hfp:∀ b∈fp,b<s2.heap.objs.size:=fun b hb=>by
  obtain ⟨o,e,_⟩:=T.obj 0 _ st2 b hb;exact A7 e
 have old:∀ b o,s2.heap.get? b=some o→h₁.get? b=some o:=fun b o e=>hsb₁.extBut b o (Bu (Bj (A7 e) hCle)) (Av _ (hHH▸Av _ e));have hacc:h₁.PlainList D #[]:=⟨_,hsb₁.extBut _ _ hDC (Av _ (by rw [← hHH,hD];exact Bh _ rfl))⟩
 have hns:h₁.Ns C fun _=>none:=hns₁;have I4:Inv (cxC X scope cl C N fp s2 H2) [] (zD js σ) H2 {s2 with heap:=h₁,toks:=s2.toks+([]:List (Str×Ab)).length}:=
  ZU hsc hNX ok I2 cl1 cl2 f2 hfp ⋯ old hns
 have st4:tn 0 h₁:=T.keep 0 _ _ st2 fun b _ o e=>old b o e;have cOld:∀ x c,X.env.cells.lookup x=some c→c<s2.heap.objs.size:=fun x c e=>by
  obtain ⟨v,z⟩:=I2.cell x c e;exact z.lt
 have nDfp:D∉fp:=fun z=>absurd (hfp D z) (by rw [hD];exact Cq _)
 have stat:∀ {pl:List (Ac×Obj)} {H':Hp},(∀ b∈fp,H' b=none)→(∀ p∈pl,p.1∉fp)→∀ b∈fp,vn (cxC X scope cl C N fp s2 H2) pl H' b:=fun {pl H'} hn hp b hb=>by
  refine ⟨hn b hb,(I4.ok.exf b hb).1,I4.ok.exfs b hb,.inl hb,(I4.ok.exf b hb).2,fun p hpp z=>?_⟩;exact hp p (by simpa [cxC] using hpp) (z▸hb)
 have fpD:∀ {H':Hp},H' D=none→vn (cxC X scope cl C N fp s2 H2) [] H' D:=fun {H'} hn=>by
  refine ⟨hn,hDC,fun z=>?_,.inr (by show s2.heap.objs.size≤D;omega),fun x c e=>?_,fun p hpp=>absurd (show p∈([]:List (Ac×Obj)) from hpp) (by simp)⟩
  ·obtain ⟨_,o,ho,_⟩:=I4.ok.funs.mem z;exact absurd (show D<s2.heap.objs.size from A7 ho) (by rw [hD];exact Cq _)
  ·exact Bu (by rw [hD];exact cOld x c (cl1 x c e))
 refine (fun loop=>codeAny_compStart_list (loop _ rfl) (T.self X.A 0 _ _ _ st4 (loop _ rfl))) (fun s₃ (hs₃:s₃={s2 with heap:=h₁,toks:=s2.toks+([]:List (Str×Ab)).length})=>?_)
 subst hs₃;refine VX (env:=compEnvC scope cl C X.env) (fun n s'=>∃ i ys its H',Inv (cxC X scope cl C N fp s2 H2) [] (zD js σ) H' s'∧tn i s'.heap∧(∀ b∈fp,H' b=none)∧s'.heap.PlainList D its∧qH ys its.toList∧H' D=none∧W i n ys H')
  ?_ m0 ⟨0,[],#[],H2,I4,st4,fun b hb=>(f2 b hb).1,hacc,.nil,I2.hok.fresh ⋯,w0⟩
 rintro n s5 ⟨i,ys,its,H5,I5,st5,fr5,⟨k5,pl5⟩,vl5,hD5,w5⟩;obtain ⟨hz,tr⟩:=turn i n ys H5 w5;have hz':its.size≤Af:=by
  have:=vl5.length;have e4:its.toList.length=its.size:=by simp
  omega
 have I5':Inv (cxC X scope cl C N fp s2 H2) [(D,{cls:= .type "list",data:= .seq its k5})] (zD js σ) H5 s5:=I5.pins_of fun p hp=>by
  have e:p=(D,{cls:= .type "list",data:= .seq its k5}):=by simpa using hp
  subst e;exact ⟨pl5,hD5,hDC,(fpD hD5).2.2.1,fun v z=>by cases z⟩
 have np:∀ p∈[(D,({cls:= .type "list",data:= .seq its k5}:Obj))],p.1∉fp:=fun p hp=>by
  have e:p=(D,{cls:= .type "list",data:= .seq its k5}):=by simpa using hp
  subst e;exact nDfp
 rcases tr with ⟨stop,qn⟩ | ⟨go,N',hN,step⟩
 ·refine thn (T.done (cxC X scope cl C N fp s2 H2) rfl rfl rfl hc i _ s5 (zD js σ) H5 (fun _ _=>False) I5' (stat fr5 np) st5 stop) fun r s6 ⟨hr,I6⟩=>?_;subst hr;have pD:=(I6.pin _ (Bc _ Au)).1;have I6':Inv (cxC X scope cl C N fp s2 H2) [] (zD js σ) H5 s6:=I6.pins_of fun p hp=>absurd hp (by simp)
  have I7:Inv (cxC X scope cl C N fp s2 H2) [] (zD js σ) (upd H5 D (.lst ys)) s6:=I6'.track (fpD hD5) ⟨hz,its.toList,k5,vl5,by simpa using pD⟩
  obtain ⟨m,hn,_⟩:=I7.loc;have hfC:upd H5 D (.lst ys) C=none:=I7.free;refine fin D C m s6 (upd H5 D (.lst ys)) ?_ hn (I2.fpOk ⋯ hfC) (qn D hD5);exact I2.call' (ch:=fp) I7.os I7.base I7.hok I7.bare fun b hb=>⟨(f2 b hb).2.2.2.1,(f2 b hb).2.1,(f2 b hb).2.2.2.2.1,(f2 b hb).2.2.2.2.2⟩
 ·refine thn (T.item (cxC X scope cl C N fp s2 H2) rfl rfl rfl hc i _ s5 (zD js σ) H5 (fun _ _=>False) I5' (stat fr5 np) st5 go) fun r s6 ⟨u,hr,h6⟩=>?_;subst hr;refine thn h6 fun _ s7 ⟨x,H7,I7,r7,y7,st7,fr7⟩=>?_;have I7':=I7.pinned (stat fr7 np) (T.obj _ _ st7);have q7:=own σ x H7 _ (step x H7 y7);refine thn (hg C _ s7 (zD js σ) H7 x u _ I7' r7 q7) fun _ s8 ⟨σ8,H8,I8,ag8,q8⟩=>?_;have keepD:∀ {σ9:St} {H9:Hp} {s9:Ae},Inv (cxC X scope cl C N fp s2 H2) ([(D,{cls:= .type "list",data:= .seq its k5})]++JP fp s7.heap) σ9 H9 s9→s9.heap.get? D=some {cls:= .type "list",data:= .seq its k5}∧H9 D=none:=fun I9=>by
   obtain ⟨a,b,_⟩:=I9.pin _ (Bc _ (B1 _ Au));exact ⟨a,b⟩
  have keepF:∀ {σ9:St} {H9:Hp} {s9:Ae},Inv (cxC X scope cl C N fp s2 H2) ([(D,{cls:= .type "list",data:= .seq its k5})]++JP fp s7.heap) σ9 H9 s9→tn (i+1) s9.heap∧∀ b∈fp,H9 b=none:=fun I9=>by
   refine ⟨T.keep _ _ _ st7 fun b hb o e=>(I9.pin (b,o) (Bc _ (Bc _ (jX hb e)))).1,fun b hb=>?_⟩;obtain ⟨o,e,d⟩:=T.obj _ _ st7 b hb;exact (I9.pin (b,o) (Bc _ (Bc _ (jX hb e)))).2.1
  refine thn (ht C _ s8 σ8 H8 _ I8 q8) fun okb s9 ⟨H9,I9,q9⟩=>?_;have again:∀ {H10:Hp} {s10:Ae},Inv (cxC X scope cl C N fp s2 H2) ([(D,{cls:= .type "list",data:= .seq its k5})]++JP fp s7.heap) σ8 H10 s10→Inv (cxC X scope cl C N fp s2 H2) [] (zD js σ) H10 s10:=fun I=>(I.pins_of fun p hp=>absurd hp (by simp)).weak ag8.1.symm ag8.2
  cases okb with
  | false=>
   have q9':N' ys H9:=q9;obtain ⟨m',hm,w9⟩:=hN _ _ q9';show ∃ m,m<n∧_;exact ⟨m',hm,i+1,ys,its,H9,again I9,(keepF I9).1,(keepF I9).2,⟨k5,(keepD I9).1⟩,vl5,(keepD I9).2,w9⟩
  | true=>
   have q9':te σ8 H9 fun y H5=>N' (ys++[y]) H5:=q9;show wpAny _ _ (eval elt (compEnvC scope cl C X.env)) _ _ s9;refine thn (he C _ s9 σ8 H9 _ I9 q9') fun yv s10 ⟨y,H10,I10,r10,q10⟩=>?_;obtain ⟨m',hm,w10⟩:=hN _ _ q10;refine wpAny_list_append_plain (hsz:=hz') ⟨k5,(keepD I10).1⟩ fun h' hl' hs'=>?_;refine ⟨m',hm,i+1,ys++[y],its.push yv,H10,?_,?_,(keepF I10).2,hl',?_,(keepD I10).2,w10⟩
   ·obtain ⟨g0,g1,g2,g3,g4,g5⟩:=fpD (keepD I10).2;exact (again I10).turned (t':=s10.toks) (fun b o hb e=>(hs'.2 b hb).trans e) g0 g1 g3 g4 g5
   ·exact T.keep _ _ _ (keepF I10).1 fun b hb o e=>(hs'.2 b (fun z=>nDfp (z▸hb))).trans e
   ·rw [Du];exact vl5.append (.cons r10 .nil)
theorem jB (hi:PI X tg iter wi) (hg:∀ cl C fp s H,PG (cxC X scope cl C N fp s H) tg g) (ht:∀ cl C fp s H,PF (cxC X scope cl C N fp s H) ifs tt) (he:∀ cl C fp s H,PE (cxC X scope cl C N fp s H) elt te)
  (own:Q0 js g) (ok:CompScope sc scope NX N js) (hsc:X.env.scope=sc:=by rfl) (hNX:X.N=NX:=by rfl) (hc:X.calm=true:=by rfl) (hs:∀ x,foldedSetIterable iter X.env x=pure x:=by intro _;rfl):
  PE X (.ListComp elt [⟨tg,iter,ifs,0⟩] scope pos) (wB wi js g tt te):=by
 intro pins s σ H Q I h;rw [eval_ListComp];obtain ⟨cl,hclos,cl1,cl2⟩:=Vs (scope:=scope) (env:=X.env) fun y hy hf=>I.ok.has y.1 (by
  have q:=ok.free y hy hf;rw [← hsc] at q;exact q)
 refine wpAny_comprehension_free (use:=none) rfl hs hclos ok.kind ok.names (thn (hi pins s σ H _ I h) fun xv s1 h1=>thn h1 fun itv s2 h2=>?_);obtain ⟨it,fp,tn,J,H2,rfl,I2,T,st2,f2,W,⟨m0,w0⟩,turn⟩:=h2;refine YU (RR:=fun acc C=>compPost (model X.prog X.w) X.A X.xe none (EP X pins σ Q) acc C) hsc hNX ok hc I2 cl1 cl2 T st2 f2 (fun C=>hg cl C fp s2 H2) (fun C=>ht cl C fp s2 H2) (fun C=>he cl C fp s2 H2) own w0 turn fun D C m s' Hf I' hn f q=>?_;obtain ⟨g0,g1,g2,g3,g4,g5⟩:=f;exact ⟨m,hn,fun h' hs'=>⟨.ref D,Hf,I'.turned (t':=s'.toks) (fun b o hb e=>(hs'.2 b hb).trans e) g0 g1 g3 g4 g5,rfl,q⟩⟩
end
mutual
inductive Rep (K:Frag) (H:Hp):V→Aa→Prop
 | non:Rep K H .non .none
 | bl (b:Bool):Rep K H (.bl b) (.bool b)
 | int (i:Int):Rep K H (.int i) (.int i)
 | str (x:Str):Rep K H (.str x) (.str x)
 | lst {a:Ac} {xs:List V} {ds:List Aa}:SqL K H a xs→Reps K H xs ds→Rep K H (.ref a) (.list ds)
 | tup {a:Ac} {xs:List V} {ds:List Aa}:SqT K H a xs→Reps K H xs ds→Rep K H (.ref a) (.tuple ds)
inductive Reps (K:Frag) (H:Hp):List V→List Aa→Prop
 | nil:Reps K H [] []
 | cons {x:V} {xs:List V} {d:Aa} {ds:List Aa}:Rep K H x d→Reps K H xs ds→Reps K H (x::xs) (d::ds)
end
section
variable {X:Cx} {pins:List (Ac×Obj)} {σ:St} {H H':Hp} {s:Ae} {K:Frag}
mutual
theorem Rep.reads (I:Inv X pins σ H s):∀ {x:V} {d:Aa} {v:Ab},Rep X.K H x d→qL x v→∃ as,Reads s.heap v d as
 | _,_,_,.non,r=>by cases (show _=Value.none from r);exact ⟨_,.none⟩
 | _,_,_,.bl b,r=>by cases (show _=Value.bool b from r);exact ⟨_,.bool b⟩
 | _,_,_,.int i,r=>by
  obtain ⟨t,rfl⟩:=(show ∃ t,_=Value.int i t from r);exact ⟨_,.int i t⟩
 | _,_,_,.str x,r=>by
  obtain ⟨t,rfl⟩:=(show ∃ t,_=Value.str x t from r);exact ⟨_,.str x t⟩
 | _,_,_,.lst (a:=a) h q,r=>by
  cases (show _=Value.ref a from r);obtain ⟨its,rv,⟨o,n,e,c,_,d⟩,_⟩:=I.list h;obtain ⟨as,z⟩:=Reps.reads I q rv;exact ⟨_,.list e c d (by simpa using z)⟩
 | _,_,_,.tup (a:=a) h q,r=>by
  cases (show _=Value.ref a from r);obtain ⟨its,rv,⟨o,e,c,n,d⟩,_⟩:=I.tuple h;obtain ⟨as,z⟩:=Reps.reads I q rv;exact ⟨_,.tuple e c d (by simpa using z)⟩
theorem Reps.reads (I:Inv X pins σ H s):∀ {xs:List V} {ds:List Aa} {vs:List Ab},Reps X.K H xs ds→qH xs vs→∃ as,ReadsAll s.heap vs ds as
 | _,_,_,.nil,.nil=>⟨_,.nil⟩
 | _,_,_,.cons h q,.cons r rr=>by
  obtain ⟨as,z⟩:=Rep.reads I h r;obtain ⟨bs,y⟩:=Reps.reads I q rr;exact ⟨_,.cons z y⟩
end
theorem qy.sqT (g:qy H H') {a:Ac} {xs:List V} (h:SqT K H a xs):SqT K H' a xs:=by
 rcases h with (h | ⟨o,h⟩) | h
 ·exact .inl (.inl (g _ _ h))
 ·exact .inl (.inr ⟨o,g _ _ h⟩)
 ·exact .inr h
mutual
theorem Rep.mono (gL:∀ {a:Ac} {xs:List V},SqL K H a xs→SqL K H' a xs) (gT:∀ {a:Ac} {xs:List V},SqT K H a xs→SqT K H' a xs):∀ {x:V} {d:Aa},Rep K H x d→Rep K H' x d
 | _,_,.non=> .non
 | _,_,.bl b=> .bl b
 | _,_,.int i=> .int i
 | _,_,.str x=> .str x
 | _,_,.lst h q=> .lst (gL h) (Reps.mono gL gT q)
 | _,_,.tup h q=> .tup (gT h) (Reps.mono gL gT q)
theorem Reps.mono (gL:∀ {a:Ac} {xs:List V},SqL K H a xs→SqL K H' a xs) (gT:∀ {a:Ac} {xs:List V},SqT K H a xs→SqT K H' a xs):∀ {xs:List V} {ds:List Aa},Reps K H xs ds→Reps K H' xs ds
 | _,_,.nil=> .nil
 | _,_,.cons h q=> .cons (Rep.mono gL gT h) (Reps.mono gL gT q)
end
theorem Rep.same (g:qy H H') {x:V} {d:Aa} (h:Rep K H x d):Rep K H' x d:=h.mono g.seq g.sqT
theorem Reps.same (g:qy H H') {xs:List V} {ds:List Aa} (h:Reps K H xs ds):Reps K H' xs ds:=h.mono g.seq g.sqT
theorem Reps.length:∀ {xs:List V} {ds:List Aa},Reps K H xs ds→xs.length=ds.length
 | _,_,.nil=>rfl
 | _,_,.cons _ q=>by rw [Aj,Aj,Reps.length q]
theorem Reps.append:∀ {xs ys:List V} {ds es:List Aa},Reps K H xs ds→Reps K H ys es→Reps K H (xs++ys) (ds++es)
 | _,_,_,_,.nil,q=>q
 | _,_,_,_,.cons h p,q=> .cons h (Reps.append p q)
theorem Reps.get:∀ {xs:List V} {ds:List Aa} {i:Nat} {x:V},Reps K H xs ds→xs[i]?=some x→∃ d,ds[i]?=some d∧Rep K H x d
 | _,_,_,_,.nil,e=>by simp at e
 | _,_,0,_,.cons r _,e=>by simp at e;subst e;exact ⟨_,rfl,r⟩
 | _,_,i+1,x,.cons _ t,e=>by
  obtain ⟨d,h1,h2⟩:=Reps.get (i:=i) (x:=x) t (by simpa using e)
  exact ⟨d,by simpa using h1,h2⟩
theorem Reps.strs:∀ xs:List Str,Reps K H (xs.map V.str) (xs.map PyData.str)
 | []=> .nil
 | b::r=> .cons (.str b) (Reps.strs r)
def qkq (K:Frag):R2:=fun x y H Q=>∃ d e,Rep K H x d∧Rep K H y e∧SeqAt.shaped d=true∧SeqAt.shaped e=true∧Q (.bl (PyData.eqv d e)) H
def qkm (K:Frag):R2:=fun x y H Q=>∃ d e,Rep K H x d∧Rep K H y e∧SeqAt.shaped d=true∧SeqAt.shaped e=true∧Q (.bl (!PyData.eqv d e)) H
theorem qi9 (hu:X.A.units+64<cLine):OpR X (compareOp .Eq) (qkq X.K):=by
 intro pins s σ H x y v u Q I rx ry h;obtain ⟨d,e,h1,h2,z1,z2,q⟩:=h;obtain ⟨as,ra⟩:=h1.reads I rx;obtain ⟨bs,rb⟩:=h2.reads I ry;exact eq_dataH ra rb z1 z2 hu (qR I q rfl)
theorem qi7 (hu:X.A.units+64<cLine):OpR X (compareOp .NotEq) (qkm X.K):=by
 intro pins s σ H x y v u Q I rx ry h;obtain ⟨d,e,h1,h2,z1,z2,q⟩:=h;obtain ⟨as,ra⟩:=h1.reads I rx;obtain ⟨bs,rb⟩:=h2.reads I ry;exact ne_dataH ra rb z1 z2 hu (qR I q rfl)
end
section
variable {X:Cx} {tg:Expr}
theorem v1:OpR X (compareOp .LtE) (fun x y H Q=>∃ i j,x= .str i∧y= .str j∧Q (.bl (!decide (j.cps.toList<i.cps.toList))) H):=by
 intro pins s σ H x y v u Q I rx ry h;obtain ⟨i,j,rfl,rfl,q⟩:=h;obtain ⟨t,rfl⟩:=rx;obtain ⟨t',rfl⟩:=ry;exact PySem.P.le_str (qR I q rfl)
def Its (x:Str):It:=⟨fun i _=>i<x.cps.size,fun i H v H'=>H'=H∧∃ c,x.cps[i]?=some c∧v= .str ⟨#[c]⟩,fun i _=>x.cps.size≤i⟩
theorem qc5 {P:Program} {w:World} {K:Frag} {tg:Expr} (it:Ac) (x:Str) (t:Tok):Turn P w K tg (Its x) [it] it (fun i h=>h.IsStrIter it (strIterType x) x t i) where
 mem:=by simp
 obj:=fun i h st b hb=>by
  have e:b=it:=by simpa using hb
  subst e;obtain ⟨o,e,c,d⟩:=st;exact ⟨o,e,fun v z=>by rw [d] at z;cases z⟩
 keep:=fun i h h' st k=>by
  obtain ⟨o,e,c⟩:=st;exact ⟨o,k it (by simp) o e,c⟩
 item:=by
  intro X hP hw hK hc i pins s σ H E I hf st hg;subst hP hw hK;obtain ⟨f0,f1,f2,f3,f4,f5⟩:=hf it (by simp)
  have hlt:i<x.cps.size:=hg;have hi:x.cps[i]?=some x.cps[i]:=Array.getElem?_eq_getElem hlt;have fin:∀ h',h'.IsStrIter it (strIterType x) x t (i+1)→Heap.SameBut it s.heap h'→∃ u,some (Value.str ⟨#[x.cps[i]]⟩ s.toks)=some u∧
    wpAny (model X.prog X.w) X.A (letOwnedTupleGo tg (.ref it) u) (fun _ s2=>∃ y H',Inv X pins σ H' s2∧qL y u∧(Its x).yld i H y H'∧s2.heap.IsStrIter it (strIterType x) x t (i+1)∧∀ b∈[it],H' b=none) E {s with heap:=h',toks:=s.toks+1}:=fun h' st' sb=>by
   have I1:Inv X pins σ H {s with heap:=h',toks:=s.toks+1}:=I.turned (fun b o hb e=>(sb.2 b hb).trans e) f0 f1 f3 f4 f5
   obtain ⟨o,e,c,d⟩:=id st';refine ⟨_,rfl,qav (s:={s with heap:=h',toks:=s.toks+1}) e c d ?_ ⟨.str ⟨#[x.cps[i]]⟩,H,I1,⟨_,rfl⟩,⟨rfl,_,hi,rfl⟩,st',fun b hb=>(hf b hb).1⟩⟩
   unfold strIterType;split <;> decide
  cases ha:x.cps.all (· <128) with
  | true=>
   have e:strIterType x="str_ascii_iterator":=by unfold strIterType;rw [if_pos ha]
   rw [e] at st;refine wpAny_pyNext_ascii_item st hi fun h' st' sb=>fin h' (by rw [e];exact st') sb
  | false=>
   have e:strIterType x="str_iterator":=by unfold strIterType;rw [if_neg (by rw [ha];decide)]
   rw [e] at st;refine wpAny_pyNext_wide_item st hi fun h' st' sb=>fin h' (by rw [e];exact st') sb
 done:=by
  intro X hP hw hK hc i pins s σ H E I hf st hg;subst hP hw hK;obtain ⟨f0,f1,f2,f3,f4,f5⟩:=hf it (by simp)
  have hi:x.cps[i]?=none:=by
   have:x.cps.size≤i:=hg;simp [this]
  cases ha:x.cps.all (· <128) with
  | true=>
   have e:strIterType x="str_ascii_iterator":=by unfold strIterType;rw [if_pos ha]
   rw [e] at st;exact wpAny_pyNext_ascii_end (I.ok.hd hc) st hi fun h' eb=>⟨rfl,I.turned (t':=s.toks) (fun b o hb e=>eb b o hb e) f0 f1 f3 f4 f5⟩
  | false=>
   have e:strIterType x="str_iterator":=by unfold strIterType;rw [if_neg (by rw [ha];decide)]
   rw [e] at st;exact wpAny_pyNext_wide_end (I.ok.hd hc) st hi fun h' eb=>⟨rfl,I.turned (t':=s.toks) (fun b o hb e=>eb b o hb e) f0 f1 f3 f4 f5⟩
 self:=fun A i s Q E st h=>by
  cases ha:x.cps.all (· <128) with
  | true=>
   have e:strIterType x="str_ascii_iterator":=by unfold strIterType;rw [if_pos ha]
   rw [e] at st;exact wpAny_pyIter_striter_ascii st h
  | false=>
   have e:strIterType x="str_iterator":=by unfold strIterType;rw [if_neg (by rw [ha];decide)]
   rw [e] at st;exact wpAny_pyIter_striter_wide st h
def qki:V→Option Int→Option Int→Hp→VK→Prop:=fun v lo hi H Q=>∃ x,v= .str x∧x.length≤Af∧Q (.str (Txt.slice x lo hi)) H
theorem qip:SlR X qki:=by
 intro pins s σ H x v vl vu lo hi sl Q I rx hs pl pu h;obtain ⟨z,rfl,hz,q⟩:=h;obtain ⟨t,rfl⟩:=rx;refine ⟨"str",_,F.slot_str_getitem.lookup,typeIs_str _ _ _,?_⟩;have fin:∀ t' k,EP X pins σ Q (.str (Txt.slice z lo hi) t') {s with toks:=k}:=fun t' k=>⟨.str _,H,I.tok k,⟨t',rfl⟩,q⟩
 obtain ⟨o,ho,hc,hd⟩:=hs;cases pl with
 | none=>cases pu with
  | none=>exact Dz (l:=none) (u:=none) (st:=none) ⟨o,ho,hc,hd⟩ rfl (post_val_or_str ⟨Aw (Txt.slice_le z _ _) hz,fin⟩)
  | int j tj=>exact Dz (l:=none) (u:=some (j,tj)) (st:=none) ⟨o,ho,hc,hd⟩ rfl (post_val_or_str ⟨Aw (Txt.slice_le z _ _) hz,fin⟩)
 | int i ti=>cases pu with
  | none=>exact Dz (l:=some (i,ti)) (u:=none) (st:=none) ⟨o,ho,hc,hd⟩ rfl (post_val_or_str ⟨Aw (Txt.slice_le z _ _) hz,fin⟩)
  | int j tj=>exact Dz (l:=some (i,ti)) (u:=some (j,tj)) (st:=none) ⟨o,ho,hc,hd⟩ rfl (post_val_or_str ⟨Aw (Txt.slice_le z _ _) hz,fin⟩)
theorem qbt {bs:List Bool}:(List.range bs.length).all (fun i=>bs.getD i false)=bs.all id:=by
 rw [B5,A4,A4];constructor
 ·intro h b hb;obtain ⟨i,hi,e⟩:=List.getElem_of_mem hb;have:=h i (Dj.mpr hi);rw [List.getD_eq_getElem?_getD,Br hi] at this;rw [← e];exact this
 ·intro h i hi;have hi':=Dj.mp hi;rw [List.getD_eq_getElem?_getD,Br hi'];exact h _ (List.getElem_mem hi')
theorem qfq (hc:X.calm=true):Je X (.builtin "all") (fun xs H Q=>∃ (a:Ac) (bs:List Bool),xs=[.ref a]∧SqL X.K H a (bs.map V.bl)∧Q (.bl (bs.all id)) H):=by
 intro pins s σ H xs us Q I r h;obtain ⟨a,bs,rfl,ha,q⟩:=h;obtain ⟨u,rfl,ru⟩:=JE r;cases ru;obtain ⟨its,rv,p,hz⟩:=I.list ha;have hlt:a<s.heap.objs.size:=by
  obtain ⟨o,n,e,_⟩:=id p;exact A7 e
 have hl:its.length=bs.length:=by rw [← rv.length,Ah]
 refine call_all_walk (wpAny_pyIter_list p.isList ?_);refine ⟨s.heap.objs.size,[s.heap.objs.size,a],[s.heap.objs.size],its.toArray.size,_,_,fun i=>bs.getD i false,rfl,Walks.list (A:=X.A.in1) (I.ok.hd hc) s.heap.objs.size a (Bu hlt) its.toArray,⟨⟨_,Bh _ rfl,rfl,rfl⟩,p.isList.at fun o e=>Av _ e⟩,?_,fun h' tk hk=>?_⟩
 ·intro i v s' Q' E' hv hq;have hv':its[i]?=some v:=by simpa using hv
  have hi:i<its.length:=(Cf.mp hv').1;have hb:(bs.map V.bl)[i]?=some (.bl (bs.getD i false)):=by
   rw [Bq,List.getD_eq_getElem?_getD,Br ⋯];rfl
  obtain ⟨u,hu,ru⟩:=rv.get hb;rw [hv'] at hu;cases hu;cases (show v=Value.bool _ from ru);exact Co hq
 ·have e:its.toArray.size=bs.length:=by rw [A6];exact hl
  rw [e,qbt];refine ⟨.bl _,H,?_,rfl,q⟩;have I1:Inv X pins σ H {s with heap:=s.heap.push {cls:= .type "list_iterator",data:= .fields #[.ref a,.int 0 0]}}:=I.kept (t':=s.toks) fun b o e=>Av _ e
  have f:=I.fpOk (Ax _) (I.hok.fresh (Ax _));exact I1.turned (fun b o hb e=>hk b o (by simpa using hb) e) f.1 f.2.1 f.2.2.2.1 f.2.2.2.2.1 f.2.2.2.2.2
theorem Q9:∀ {ys:List Str} {its:List Ab},qH (ys.map V.str) its→StrsAre its ys
 | [],_,.nil=> .nil
 | y::r,_,.cons h t=>by
  obtain ⟨k,rfl⟩:=h;exact .cons _ k (Q9 t)
def qdy (K:Frag):V→List V→Hp→VK→Prop:=fun x xs H Q=>∃ (z:Str) (a:Ac) (ys:List Str),x= .str z∧xs=[.ref a]∧SqL K H a (ys.map V.str)∧(ys.map (·.length)).sum+ys.length*z.length≤16777216∧Q (.str (Txt.join z ys)) H
theorem qhd:MtR X "str.join" (qdy X.K):=by
 intro pins s σ H x xs v us Q I rx r h;obtain ⟨z,a,ys,rfl,rfl,ha,hk,q⟩:=h;obtain ⟨t,rfl⟩:=rx;obtain ⟨u,rfl,ru⟩:=JE r;cases ru;obtain ⟨its,rv,p,hz⟩:=I.list ha;exact join_list p.isList (by simpa using Q9 rv) hk fun t' k=>⟨.str _,H,I.tok k,⟨t',rfl⟩,q⟩
def isi (t T:String):Bool:=t==T||(t=="bool"&&T=="int")
theorem v5 {K:Frag} {t T:String} (h1:t∈["NoneType","bool","int","str","list","tuple","dict"]) (h2:T∈["bool","int","str","list","tuple"]):PySem.W.kitOne K (.type t) (.type T)=some (isi t T):=by
 simp only [Ap,A2,or_false] at h1 h2;rcases h1 with rfl | rfl | rfl | rfl | rfl | rfl | rfl <;> rcases h2 with rfl | rfl | rfl | rfl | rfl <;> kernel_rfl
end
theorem zp {c:Bool} {A B:Prop} (e:c=true) (h:A):if c=true then A else B:=by rw [if_pos e];exact h
theorem zh {c:Bool} {A B:Prop} (e:c=false) (h:B):if c=true then A else B:=by rw [if_neg (by rw [e];decide)];exact h
theorem ze:bootBuiltins "len"=some (.builtin "len"):=∅
theorem qfr:bootBuiltins "max"=some (.builtin "max"):=∅
theorem XL:bootBuiltins "all"=some (.builtin "all"):=∅
theorem qjy:bootBuiltins "ord"=some (.builtin "ord"):=∅
theorem zg:bootBuiltins "isinstance"=some (.builtin "isinstance"):=∅
theorem vU:bootBuiltins "str"=some (.type "str"):=∅
theorem ww:bootBuiltins "int"=some (.type "int"):=∅
theorem qhs:bootBuiltins "bool"=some (.type "bool"):=∅
theorem qa3:bootBuiltins "list"=some (.type "list"):=∅
theorem zK:bootBuiltins "tuple"=some (.type "tuple"):=∅
theorem qjx:bootBuiltins "set"=some (.type "set"):=∅
section
variable {X:Cx} {x:Str} {pos:Pos} {tg:Expr}
theorem VL {T:String} (hm:X.mg x=none) (hv:bootBuiltins x=some (.type T)) (hg:Gl X x:=by rfl) (hn:x≠"__name__":=by decide) (hd:(x==("__debug__":Str))=false:=by decide):PE X (.Name x pos) (tC (.ty T)):=qgz hg hm hv rfl hn hd
theorem W1 {v:V} (h:∃ u,X.mg x=some u∧qL v u) (hg:Gl X x:=by rfl) (hd:(x==("__debug__":Str))=false:=by decide):PE X (.Name x pos) (tC v):=by
 obtain ⟨u,m,r⟩:=h;exact qah hg m r hd
def qks:R2:=fun x y H Q=>∃ i j,x= .str i∧y= .str j∧i.length+j.length≤Af∧Q (.str (i++j)) H
def zk:R2:=fun x y H Q=>rI0 (fun i j=> .int (i+j)) x y H Q∨(qks x y H Q∨qkr x y H Q)
theorem qA:OpR X (binaryOp .Add) zk:=qjb.or (Qu.or qja)
def QO (K:Frag) (tl:TE):TI:=fun σ H R=>tl σ H fun x H1=>(∃ a,x= .ref a∧(∃ xs,SqL K H1 a xs)∧R (Itl K a) H1)∨(∃ a,x= .ref a∧(∃ xs,SqT K H1 a xs)∧R (Itt K a) H1)∨∃ z,x= .str z∧R (Its z) H1
theorem qi1 {l:Expr} {tl:TE} (hl:PE X l tl):PI X tg l (QO X.K tl):=by
 intro pins s σ H R I h;refine thn (hl pins s σ H _ I h) fun v s1 ⟨x,H1,I1,r1,q1⟩=>?_;have fr:∀ b∈[s1.heap.objs.size],vn X pins H1 b:=fun b hb=>by
  have e:b=s1.heap.objs.size:=by simpa using hb
  subst e;exact I1.fpOk (Ax _) (I1.hok.fresh (Ax _))
 rcases q1 with ⟨a,e,⟨xs,hq⟩,q⟩ | ⟨a,e,⟨xs,hq⟩,q⟩ | ⟨z,e,q⟩
 ·subst e;cases r1;obtain ⟨its,rv,p,hz⟩:=I1.list hq;refine wpAny_pyIter_list p.isList ?_;exact ⟨s1.heap.objs.size,[s1.heap.objs.size],_,_,H1,rfl,I1.kept (t':=s1.toks) fun b o e=>Av _ e,qbf a _,⟨_,Bh _ rfl,rfl,rfl⟩,fr,q⟩
 ·subst e;cases r1;obtain ⟨its,rv,p,hz⟩:=I1.tuple hq;refine Er (show s1.heap.IsTuple a its.toArray from p) ?_;exact ⟨s1.heap.objs.size,[s1.heap.objs.size],_,_,H1,rfl,I1.kept (t':=s1.toks) fun b o e=>Av _ e,Z4 a _,⟨_,Bh _ rfl,rfl,rfl⟩,fr,q⟩
 ·subst e;obtain ⟨t,rfl⟩:=r1;refine wpAny_pyIter_strU ?_;exact ⟨s1.heap.objs.size,[s1.heap.objs.size],_,_,H1,rfl,I1.kept (t':=s1.toks) fun b o e=>Av _ e,qc5 _ z t,⟨_,Bh _ rfl,rfl,rfl⟩,fr,q⟩
def Qn (K:Frag):V→Option Int→Option Int→Hp→VK→Prop:=fun x lo hi H Q=>qkj K x lo hi H Q∨(qki x lo hi H Q∨qkh K x lo hi H Q)
theorem qiq:SlR X (Qn X.K):=qgg.or (qip.or qio)
end
section
variable {X:Cx} {K:Frag} {tg:Expr}
theorem ix_k (h:X.K=K):IxR X (rIx K):=h▸qjo
theorem wQ (h:X.K=K):SlR X (Qn K):=h▸qiq
theorem zN (h:X.K=K):Je X (.builtin "len") (fun xs H Q=>∃ x n,xs=[x]∧wz K x H n∧Q (.int n) H):=h▸qfp
theorem qa4 (h:X.K=K) (hc:X.calm=true):Je X (.builtin "all") (fun xs H Q=>∃ (a:Ac) (bs:List Bool),xs=[.ref a]∧SqL K H a (bs.map V.bl)∧Q (.bl (bs.all id)) H):=h▸qfq hc
theorem yf (h:X.K=K):MtR X "str.join" (qdy K):=h▸qhd
theorem qlf (h:X.K=K) (hu:X.A.units+64<cLine):OpR X (compareOp .Eq) (qkq K):=h▸qi9 hu
theorem qk4 (h:X.K=K) (hu:X.A.units+64<cLine):OpR X (compareOp .NotEq) (qkm K):=h▸qi7 hu
theorem WY {l:Expr} {tl:TE} (h:X.K=K) (hl:PE X l tl):PI X tg l (QO K tl):=h▸qi1 hl
theorem jJ (h:X.K=K):Je X (.type "tuple") (fun xs H Q=>∃ p ys,xs=[.ref p]∧((SqL K H p ys∧∀ l,H l=none→Q (.ref l) (upd H l (.tup ys)))∨(SqT K H p ys∧Q (.ref p) H))):=h▸yX
theorem Zr {es:List Expr} {k:Nat} {t:TGs} {n:Nat} {pos:Pos} (hK:X.K=K) (hc:X.calm=true) (h:PGs X es t) (hn:(assignEach es X.env).length=n:=by rfl) (hst:(assignEach es X.env).findIdx? (·.1)=none:=by rfl):PG X (.Tuple es k pos) (XI K n t):=hK▸qi2 hc h hn hst
theorem vw {o e:Expr} {es:List Expr} {to:TE} {t:TA} {name:Str} {apos cpos:Pos} {T id:String} {r:V→List V→Hp→VK→Prop} (hK:X.K=K) (pa:PlainAttrs T) (slot:Slot T name id) (hty:typeOf (.builtin id)=pure (.type "method_descriptor")) (hm:MtR X id r) (ho:PE X o to) (ha:PA X (e::es) t)
  (hbase:attributeBase o name X.env (eval o X.env)=eval o X.env:=by rfl)
  (hfew:((backTo cpos (starEach (e::es) X.env)).all (fun x=>!x.1)&&(backToKw cpos (keywordEach [] X.env)).all (fun x=>x.1.isSome)
   &&decide ((e::es).length+([]:List Keyword).length+(if ([]:List Keyword).isEmpty then 0 else 1)<30))=true:=by rfl)
  (hline:(apos.endLine==cpos.line)=true:=by rfl) (hs:starEach (e::es) X.env=(false,eval e X.env)::starEach es X.env:=by rfl) (hplain:(backTo cpos (starEach es X.env)).any (·.1)=false:=by rfl):
  PE X (.Call (.Attribute o name apos) (e::es) [] cpos) (tBM K T r to t):=hK▸qkw pa slot hty hm ho ha hbase hfew hline hs hplain
theorem qif {o:Expr} {to:TE} {name:Str} {apos cpos:Pos} {T id:String} {r:V→List V→Hp→VK→Prop} (hK:X.K=K) (pa:PlainAttrs T) (slot:Slot T name id) (hty:typeOf (.builtin id)=pure (.type "method_descriptor")) (hm:MtR X id r) (ho:PE X o to)
  (hbase:attributeBase o name X.env (eval o X.env)=eval o X.env:=by rfl) (hline:(apos.endLine==cpos.line)=true:=by rfl):PE X (.Call (.Attribute o name apos) [] [] cpos) (qgb K T r to):=hK▸qi5 pa slot hty hm ho hbase hline
end
structure Def (P:Program) (w:World) (K:Frag) (mg:Str→Option Ab) (base:Heap) (k:Nat) (x:Str) (ps:List Str) (sp:Sp):Prop where
 ex:∃ (f:Ac) (fd:FuncData),FnOk P w K mg base CX0 k f fd ps sp∧Jf K fd ps []∧PySem.W.keepIn K (.ref f)=true∧mg x=some (.ref f)
theorem qeb {X:Cx} {k:Nat} {x:Str} {ps:List Str} {sp:Sp} {e:Expr} {es:List Expr} {t:TA} {p pos:Pos} (D:Def X.prog X.w X.K X.mg X.base k x ps sp) (hr:Room k X.A) (ha:PA X (e::es) t) (hg:Gl X x:=by rfl)
  (hdb:(x==("__debug__":Str))=false:=by decide) (he:starEach (e::es) X.env=(false,eval e X.env)::starEach es X.env:=by rfl) (hpl:(backTo pos (starEach es X.env)).any (·.1)=false:=by rfl):
  PE X (.Call (.Name x p) (e::es) [] pos) (qI sp [] E0 t):=by
 obtain ⟨f,fd,F,B,kp,m⟩:=D.ex;exact qaj F hr hg m kp B .nil qee ha hdb he hpl
theorem zq.there {P:Program} {w:World} {H:Hp} {h:Heap} {a:Ac} {o:HO} (x:zq P w H h a o):∃ ob,h.get? a=some ob:=by
 cases o with
 | lst xs=>obtain ⟨_,_,_,_,e⟩:=x;exact ⟨_,e⟩
 | tup xs=>obtain ⟨_,_,_,o,e,_⟩:=x;exact ⟨_,e⟩
 | dK kvs=>obtain ⟨_,_,_,_,o,_,_,e,_⟩:=x;exact ⟨_,e⟩
 | dT kvs=>obtain ⟨_,_,_,_,o,_,_,e,_⟩:=x;exact ⟨_,e⟩
 | set S n=>obtain ⟨o,_,_,_,e,_⟩:=x;exact ⟨_,e⟩
 | ins C dx fs=>obtain ⟨_,_,_,e,_⟩:=x;exact ⟨_,e⟩
 | own y=>exact x
 | xd fs=>obtain ⟨_,⟨_,_,_,e,_⟩,_⟩:=x;exact ⟨_,e⟩
 | rng lo hi=>obtain ⟨_,_,_,e⟩:=x;exact ⟨_,e⟩
 | frz ob u=>obtain ⟨e,_⟩:=x;exact ⟨_,e⟩
 | tbl ps=>exact ⟨_,(show h.get? a=some _ from x)⟩
 | met f y=>exact ⟨_,(show h.get? a=some _ from x)⟩
 | ext φ=>obtain ⟨_,e,_⟩:=x;exact e
structure Fly (P:Program) (w:World) (outer:List Env) (H:Hp) (s:Ae) (H':Hp) (ea:Ac) (C:Ab) (s':Ae):Prop where
 os:s'.os=s.os
 bare:AllBare s'.gens
 un:Un (frs outer) [] H H' s.heap s'.heap
 hok:HOk P w H' s'.heap
 frees:∀ b∈frs outer,H' b=none
 fly:∃ B a0,Heap.FlyingW B outer ea C a0 s'.heap∧∀ b o,s'.heap.get? b=some o→(H' b≠none∨∃ o0,s.heap.get? b=some o0)→b∉frs outer→B.get? b=some o
abbrev CX1 (P:Program) (w:World):CXT:=fun outer H s E e s'=>∃ ea C H',e= .ref ea∧Fly P w outer H s H' ea C s'∧E C none H'
section
variable {P:Program} {w:World} {outer l2:List Env} {H H':Hp} {s s':Ae} {ea:Ac} {C:Ab} {h':Heap}
theorem qfb {B:Heap} {a0:Ab} (F:Fly P w outer H s H' ea C s') (hB:∀ b o,s'.heap.get? b=some o→(H' b≠none∨∃ o0,s.heap.get? b=some o0)→b∉frs outer→B.get? b=some o)
  (fl:Heap.FlyingW B outer ea C a0 h') (sm:s'.heap.UpToSlots h') (hd:∀ b∈frs outer,∀ o,s'.heap.get? b=some o→∀ vs,o.data≠ .fields vs):Fly P w outer H s H' ea C {s' with heap:=h'}:=by
 have stay:∀ b o,s'.heap.get? b=some o→(H' b≠none∨∃ o0,s.heap.get? b=some o0)→b∉frs outer→h'.get? b=some o:=fun b o e z n=>fl.1 b o (hB b o e z n);refine ⟨F.os,F.bare,⟨fun b o e n hb hx=>?_,fun b o e n hb hx=>?_,F.un.free,fun b o e hx=>?_,F.un.tups,F.un.frzs,F.un.tbls⟩,fun b u e=>?_,F.frees,B,a0,fl,fun b o e z n=>?_⟩
 ·exact stay b o (F.un.keep b o e n hb hx) (.inr ⟨o,e⟩) hb
 ·obtain ⟨sl,e1⟩:=F.un.slot b o e n hb hx;obtain ⟨sl',e2⟩:=sm b _ e1 (hd b hb _ e1);exact ⟨sl',e2⟩
 ·obtain ⟨o1,e1⟩:=F.un.there b o e hx
  by_cases hb:b∈frs outer
  ·obtain ⟨sl',e2⟩:=sm b _ e1 (hd b hb _ e1);exact ⟨_,e2⟩
  ·exact ⟨o1,stay b o1 e1 (.inr ⟨o,e⟩) hb⟩
 ·have nf:∀ c v,H' c=some v→c∉frs outer:=fun c v q z=>by rw [F.frees c z] at q;cases q
  refine (F.hok b u e).stay (fun c v hc q=>?_) (fun _ q=>q) fun _ _ q=>q;rcases hc with rfl | hc
  ·exact stay c v q (.inl (by rw [e];simp)) (nf c _ e)
  ·exact stay c v q (.inl (by rw [hc];simp)) (nf c _ hc)
 ·have e0:∃ o1,s'.heap.get? b=some o1:=by
   rcases z with z | ⟨o0,z⟩
   ·cases q:H' b with
    | none=>exact absurd q z
    | some u=>exact (F.hok b u q).there
   ·exact F.un.there b o0 z (by simp)
  obtain ⟨o1,e1⟩:=e0;have e2:=hB b o1 e1 z n;have e3:=fl.1 b o1 e2;have e':h'.get? b=some o:=e;rw [e'] at e3;cases e3;exact e2
end
section
variable {P:Program} {w:World} {K:Frag} {mg:Str→Option Ab} {base:Heap} {N:List Str} {qual:Str} {scope:Scope} {f:Ac} {cd:Ab} {A:Around} {outer:List Env} {s₀:Ae} {H₀:Hp} {E:XK}
theorem ZN {env:Env} {L:Ac} (h:env.frame=some L) (outer:List Env):frs (env::outer)=L::frs outer:=by
 unfold frs;rw [El,h]
theorem qho {pins:List (Ac×Obj)} {σ:St} {H H':Hp} {s s':Ae} {ea:Ac} {C:Ab}
  (I:Inv (Wb (CX1 P w) P w K mg base N qual scope f cd A outer s₀ H₀ E) pins σ H s) (F:Fly P w (envOfC qual scope s₀.heap.objs.size f cd::outer) H s H' ea C s'):
  ∀ {Q:Unit→Ae→Prop} {E':Ab→Ae→Prop},(∀ s'',Fly P w outer H₀ s₀ H' ea C s''→Q () s'')→wpAny (model P w) (A.deeper (envOfC qual scope s₀.heap.objs.size f cd)) (leaving (envOfC qual scope s₀.heap.objs.size f cd) (.ref ea)) Q E' s':=by
 intro Q E' hQ;obtain ⟨B,a0,fl,hB⟩:=F.fly;have fc:frs (envOfC qual scope s₀.heap.objs.size f cd::outer)=s₀.heap.objs.size::frs outer:=ZN rfl outer;refine wpAny_leaves_onW (L:=s₀.heap.objs.size) I.ok.frames rfl fl fun h' fl' sm=>hQ _ ?_;have U1:Un (frs outer) [] H₀ H s₀.heap s.heap:=I.base;have U2:=F.un;rw [fc] at U2 hB;have nL:∀ b o,s₀.heap.get? b=some o→b≠s₀.heap.objs.size:=fun b o e=>Bu (A7 e);have nf:∀ b o,s₀.heap.get? b=some o→b∉frs outer→b∉s₀.heap.objs.size::frs outer:=fun b o e hb z=>by
  rcases Ap.mp z with z | z
  ·exact nL b o e z
  ·exact hb z
 have stay:∀ b o,s'.heap.get? b=some o→(H' b≠none∨∃ o0,s.heap.get? b=some o0)→b∉s₀.heap.objs.size::frs outer→h'.get? b=some o:=fun b o e z n=>fl'.1 b o (hB b o e z n);have hd:∀ b∈frs outer,∀ o,s'.heap.get? b=some o→∀ vs,o.data≠ .fields vs:=fun b hb o e vs=>by
  obtain ⟨_,o1,e1,d1⟩:=fl.2.2.1.mem (b:=b) (by rw [show List.filterMap (fun x=>x.frame) (envOfC qual scope s₀.heap.objs.size f cd::outer)=frs (envOfC qual scope s₀.heap.objs.size f cd::outer) from rfl,fc];exact Ao _ hb)
  rw [e] at e1;cases e1;exact d1 vs
 have hfr:∀ b∈frs outer,H' b=none:=fun b hb=>F.frees b (by rw [fc];exact Ao _ hb)
 have there2:∀ b o,s₀.heap.get? b=some o→∃ o1,s.heap.get? b=some o1∧∃ o2,s'.heap.get? b=some o2:=fun b o e=>by
  obtain ⟨o1,e1⟩:=U1.there b o e (by simp)
  obtain ⟨o2,e2⟩:=U2.there b o1 e1 (by simp)
  exact ⟨o1,e1,o2,e2⟩
 refine ⟨F.os.trans I.os,F.bare,⟨fun b o e n hb hx=>?_,fun b o e n hb hx=>?_,fun b o e n hx=>?_,fun b o e hx=>?_,fun b xs q=>U2.tups b xs (U1.tups b xs q),fun b o u q=>U2.frzs b o u (U1.frzs b o u q),fun b ps q=>?_⟩,fun b u e=>?_,hfr,B,a0,fl',fun b o e z n=>?_⟩
 ·have e1:=U1.keep b o e n hb (by simp)
  have n1:=U1.free b o e n (by simp)
  exact stay b o (U2.keep b o e1 n1 (nf b o e hb) (by simp)) (.inr ⟨o,e1⟩) (nf b o e hb)
 ·obtain ⟨sl,e1⟩:=U1.slot b o e n hb (by simp)
  have n1:=U1.free b o e n (by simp)
  obtain ⟨sl2,e2⟩:=U2.slot b _ e1 n1 (Ao _ hb) (by simp)
  obtain ⟨sl3,e3⟩:=sm b _ e2 (hd b hb _ e2);exact ⟨sl3,e3⟩
 ·obtain ⟨o1,e1⟩:=U1.there b o e (by simp)
  exact U2.free b o1 e1 (U1.free b o e n (by simp)) (by simp)
 ·obtain ⟨o1,e1,o2,e2⟩:=there2 b o e
  by_cases hb:b∈frs outer
  ·obtain ⟨sl3,e3⟩:=sm b _ e2 (hd b hb _ e2);exact ⟨_,e3⟩
  ·exact ⟨o2,stay b o2 e2 (.inr ⟨o1,e1⟩) (nf b o e hb)⟩
 ·obtain ⟨m1,e1⟩:=U1.tbls b ps q;obtain ⟨m2,e2⟩:=U2.tbls b _ e1;exact ⟨m1++m2,by rw [e2,Array.append_assoc]⟩
 ·have nt:∀ c v,H' c=some v→c∉s₀.heap.objs.size::frs outer:=fun c v q z=>by
   rw [F.frees c (by rw [fc];exact z)] at q;cases q
  refine (F.hok b u e).stay (fun c v hc q=>?_) (fun _ q=>q) fun _ _ q=>q;rcases hc with rfl | hc
  ·exact stay c v q (.inl (by rw [e];simp)) (nt c _ e)
  ·exact stay c v q (.inl (by rw [hc];simp)) (nt c _ hc)
 ·have nt:∀ c v,H' c=some v→c∉s₀.heap.objs.size::frs outer:=fun c v q z=>by
   rw [F.frees c (by rw [fc];exact z)] at q;cases q
  have e0:∃ o1,s'.heap.get? b=some o1∧(H' b≠none∨∃ o0,s.heap.get? b=some o0)∧b∉s₀.heap.objs.size::frs outer:=by
   rcases z with z | ⟨o0,z⟩
   ·cases q:H' b with
    | none=>exact absurd q z
    | some u=>
     obtain ⟨o1,e1⟩:=(F.hok b u q).there;exact ⟨o1,e1,.inl (by simp),nt b u q⟩
   ·obtain ⟨o1,e1,o2,e2⟩:=there2 b o0 z;exact ⟨o2,e2,.inr ⟨o1,e1⟩,nf b o0 z n⟩
  obtain ⟨o1,e1,z1,n1⟩:=e0;have e2:=hB b o1 e1 z1 n1;have e3:=fl'.1 b o1 e2;have e':h'.get? b=some o:=e;rw [e'] at e3;cases e3;exact e2
end
section
open PySem.Builtin PySem.Builtin.ObjectAttr PySem.Builtin.Getset_descriptor
variable {prog:Program} {w:World} {A:Around} {K:Frag} {x D:Ac}
end
abbrev bmVE:List Ab:=[.type "ValueError",.type "Exception",.type "BaseException",.type "object"]
def qj5 (K:Frag) (C:Ac):Prop:=∀ h:Heap,K.In h→∃ bm N nm q bs hdct sn sub ab col dd k0 k1 k2 k3 k5 mN,
 h.get? C=some (excClassObj nm q C N bs bm hdct sn sub ab col dd k0 k1 k2 k3 k5 "ValueError.__new__")∧h.Ns N mN∧mN "__init__"=none∧OwnTail h bmVE bm
def qf2 (X:Cx) (C:Ab) (R:Hp→Prop):Prop:=∀ (pins:List (Ac×Obj)) (σ:St) (H:Hp) (s:Ae) (h':Heap) (e:Ac) (vs:List Ab),
 Inv X pins σ H s→Heap.MadeExcOf s.heap h' e C vs→R H→X.xe (.ref e) {s with heap:=h'}
def qir (t:TA) (R:Hp→Prop):TS:=fun _ σ H=>t σ H fun vs H1=>vs.length≤Af∧R H1
theorem qd4 {X:Cx} {x:Str} {C:Ac} {R:Hp→Prop} {e:Expr} {es:List Expr} {t:TA} {np cpos pos:Pos} (hr:qf2 X (.ref C) R) (O:qj5 X.K C) (hm:X.mg x=some (.ref C)) (ha:PA X (e::es) t) (hc:X.calm=true:=by rfl)
  (hg:Gl X x:=by rfl) (hdb:(x==("__debug__":Str))=false:=by decide) (he:starEach (e::es) X.env=(false,eval e X.env)::starEach es X.env:=by rfl) (hpl:(backTo cpos (starEach es X.env)).any (·.1)=false:=by rfl):
  PS X (.Raise (some (.Call (.Name x np) (e::es) [] cpos)) none pos) (qir t R):=by
 intro pins s σ H D I h;obtain ⟨bm,N,nm,q,bs,hdct,sn,sub,ab,col,dd,k0,k1,k2,k3,k5,mN,hC,hN,hni,T⟩:=O X.base I.mod.kin;refine wpAny_Raise_call_subT (C:=C) (nm:=nm) (q:=q) (N:=N) (bs:=bs) (bm:=bm) (hdct:=hdct) (sn:=sn) (sub:=sub) (ab:=ab) (col:=col) (dd:=dd) (k0:=k0) (k1:=k1) (k2:=k2) (k3:=k3) (k5:=k5) F.excBase_ValueError (mN:=mN) (T.hasType F.excBase_ValueError.hasBase) (I.ok.hd hc)
  (by rw [he];show (false||(backTo cpos (starEach es X.env)).any (·.1))=false;rw [hpl];rfl) hni (JJ I hg hm ⟨rfl,?_⟩ hdb)
 have h2:=ha cpos pins s σ H _ I h;rw [he] at h2 ⊢;refine Calls.evalArgs_plain (thn h2 fun vs s2 ⟨ws,H2,I2,r,z,q2⟩=>⟨rfl,by rw [← r.length];exact z,I2.bk _ _ hC,hN.keeps I2.bk,T.keeps I2.bk,fun h' e' m=>hr pins σ H2 s2 h' e' _ I2 m q2⟩)
section
variable {P:Program} {w:World} {K:Frag} {mg:Str→Option Ab} {base:Heap} {N:List Str} {qual:Str} {scope:Scope} {f:Ac} {cd:Ab} {A:Around} {outer:List Env} {s₀:Ae} {H₀:Hp} {E:XK}
theorem qgo {C:Ab}:qf2 (Wb (CX1 P w) P w K mg base N qual scope f cd A outer s₀ H₀ E) C (fun H=>E C none H):=by
 intro pins σ H s h' e vs I m q;show wpAny (model P w) (A.deeper (envOfC qual scope s₀.heap.objs.size f cd)) (leaving (envOfC qual scope s₀.heap.objs.size f cd) (.ref e)) (fun _ s''=>CX1 P w outer H₀ s₀ E (.ref e) s'') (fun e' s''=>CX1 P w outer H₀ s₀ E e' s'') {s with heap:=h'}
 have fc:frs (envOfC qual scope s₀.heap.objs.size f cd::outer)=s₀.heap.objs.size::frs outer:=ZN rfl outer;have U1:Un (frs outer) [] H₀ H s₀.heap s.heap:=I.base;have stk:s.heap.FunFrames base (envOfC qual scope s₀.heap.objs.size f cd::outer):=I.stack;have fre:∀ b∈frs (envOfC qual scope s₀.heap.objs.size f cd::outer),H b=none:=I.stkFree;have hin:∀ env∈(envOfC qual scope s₀.heap.objs.size f cd::outer),∀ b,env.frame=some b→b∈frs (envOfC qual scope s₀.heap.objs.size f cd::outer):=fun env he b hb=>List.mem_filterMap.mpr ⟨env,he,hb⟩;refine wpAny_leaves_madeW (base:=PySem.W.hideAll s.heap (frs (envOfC qual scope s₀.heap.objs.size f cd::outer))) (h:=s.heap) I.ok.frames rfl (fun b o z=>PySem.W.of_hideAll _ z) (PySem.W.funFrames_hide stk hin) m fun h2 t fl _ _ sm=>?_;refine ⟨e,C,H,rfl,?_,q⟩;have nL:∀ b o,s₀.heap.get? b=some o→b≠s₀.heap.objs.size:=fun b o z=>Bu (A7 z);have nf:∀ b o,s₀.heap.get? b=some o→b∉frs outer→b∉frs (envOfC qual scope s₀.heap.objs.size f cd::outer):=fun b o z hb y=>by
  rw [fc] at y;rcases Ap.mp y with y | y
  ·exact nL b o z y
  ·exact hb y
 have nt:∀ c v,H c=some v→c∉frs (envOfC qual scope s₀.heap.objs.size f cd::outer):=fun c v z y=>by
  rw [fre c y] at z;cases z
 have stay:∀ b o,s.heap.get? b=some o→b∉frs (envOfC qual scope s₀.heap.objs.size f cd::outer)→h2.get? b=some o:=fun b o z n=>fl.1 b o (PySem.W.hideAll_get _ z n);have hd:∀ b∈frs outer,∀ o,s.heap.get? b=some o→∀ vs,o.data≠ .fields vs:=fun b hb o z vs=>by
  obtain ⟨_,o1,e1,d1⟩:=stk.mem (b:=b) (show b∈frs (envOfC qual scope s₀.heap.objs.size f cd::outer) by rw [fc];exact Ao _ hb)
  rw [z] at e1;cases e1;exact d1 vs
 have slots:∀ b∈frs outer,∀ o,s.heap.get? b=some o→∃ sl,h2.get? b=some {o with slots:=sl}:=fun b hb o z=>sm b o (m.keeps b o z) (hd b hb o z)
 refine ⟨I.os,I.bare,⟨fun b o z n hb hx=>?_,fun b o z n hb hx=>?_,U1.free,fun b o z hx=>?_,U1.tups,U1.frzs,U1.tbls⟩,fun b u z=>?_,fun b hb=>fre b (by rw [fc];exact Ao _ hb),_,_,fl,fun b o z y n=>?_⟩
 ·exact stay b o (U1.keep b o z n hb hx) (nf b o z hb)
 ·obtain ⟨sl,e1⟩:=U1.slot b o z n hb hx;obtain ⟨sl2,e2⟩:=slots b hb _ e1;exact ⟨sl2,e2⟩
 ·obtain ⟨o1,e1⟩:=U1.there b o z hx
  by_cases hb:b∈frs outer
  ·obtain ⟨sl2,e2⟩:=slots b hb _ e1;exact ⟨_,e2⟩
  ·exact ⟨o1,stay b o1 e1 (nf b o z hb)⟩
 ·refine (I.hok b u z).stay (fun c v hc y=>?_) (fun _ y=>y) fun _ _ y=>y;rcases hc with rfl | hc
  ·exact stay c v y (nt c _ z)
  ·exact stay c v y (nt c _ hc)
 ·have e0:∃ o1,s.heap.get? b=some o1∧b∉frs (envOfC qual scope s₀.heap.objs.size f cd::outer):=by
   rcases y with y | ⟨o0,y⟩
   ·cases q2:H b with
    | none=>exact absurd q2 y
    | some u=>
     obtain ⟨o1,e1⟩:=(I.hok b u q2).there;exact ⟨o1,e1,nt b u q2⟩
   ·obtain ⟨o1,e1⟩:=U1.there b o0 y (by simp)
    exact ⟨o1,e1,nf b o0 y n⟩
  obtain ⟨o1,e1,n1⟩:=e0;have e2:=stay b o1 e1 n1;have z':h2.get? b=some o:=z;rw [z'] at e2;cases e2;exact PySem.W.hideAll_get _ e1 n1
theorem qky:JT (CX1 P w) (Wb (CX1 P w) P w K mg base N qual scope f cd A outer s₀ H₀ E) E:=by
 intro pins σ H s e s' I h;obtain ⟨ea,C,H',rfl,F,q⟩:=h;exact qho I F fun s'' F'=>⟨ea,C,H',rfl,F',q⟩
theorem Fun.ok1 {x qual:Str} {st:Stmt} {f:Ac} {fd:FuncData} {N ps:List Str} {k:Nat} {sp:Sp} (F:Fun K x qual st f fd) (S:FnScope N ps (qj st)) (len:∀ vs H Q E,sp vs H Q E→vs.length=ps.length)
  (hbody:∀ (cdv:Ab) (A:Around) (outer:List Env) (s:Ae) (H:Hp) (vs:List V) (Q:VK) (E:XK),Room k (A.deeper (envOfC qual (qj st) s.heap.objs.size f cdv))→sp vs H Q E→
   ∃ t,PSs (Wb (CX1 P w) P w K mg base N qual (qj st) f cdv A outer s H E) (jh st) t∧t {nx:=fun _ H'=>Q .non H',rt:=Q} (start N vs) H):FnOk P w K mg base (CX1 P w) (k+1) f fd ps sp:=by
 obtain ⟨oc,od,kV,doc,pm,an,cdv,ct,osl,rfl,lk,hcd⟩:=F.ex;exact qia lk hcd S len fun A outer s H vs Q E hr hsp=>hbody cdv A outer s H vs Q E hr hsp
end
def blank (σ:St):St:=List.replicate σ.length none
theorem qcp {σ:St} {i:Nat} {v:V} (h:(blank σ)[i]?=some (some v)):False:=by
 unfold blank at h;rw [List.getElem?_replicate] at h;split at h <;> cases h
theorem blank_len {σ:St}:(blank σ).length=σ.length:=List.length_replicate ..
abbrev Cx.more (X:Cx) (pins:List (Ac×Obj)):Cx:={X with pn:=X.pn++pins}
section
variable {X:Cx} {pins ps2:List (Ac×Obj)} {σ:St} {H:Hp} {s:Ae}
theorem Cx.Ok.more (ok:X.Ok) (pins:List (Ac×Obj)):(X.more pins).Ok:=
 ⟨ok.mod,ok.kind,ok.glob,ok.blt,ok.above,ok.inj,ok.has,ok.cab,ok.hd,ok.frames,ok.stk,ok.exf,ok.bs,ok.bsz,ok.noex,ok.exfs,ok.funs,ok.frf⟩
theorem Cx.Ok.less (ok:(X.more pins).Ok):X.Ok:=
 ⟨ok.mod,ok.kind,ok.glob,ok.blt,ok.above,ok.inj,ok.has,ok.cab,ok.hd,ok.frames,ok.stk,ok.exf,ok.bs,ok.bsz,ok.noex,ok.exfs,ok.funs,ok.frf⟩
theorem Inv.more (I:Inv X pins σ H s):Inv (X.more pins) [] σ H s:=
 ⟨I.ok.more pins,I.os,I.bare,I.base,I.loc,I.cell,I.free,I.freeC,fun p hp=>I.pin p (by simpa [Cx.more] using hp),I.hok,I.len⟩
theorem Inv.less (I:Inv (X.more pins) ps2 σ H s):Inv X pins σ H s:=
 ⟨I.ok.less,I.os,I.bare,I.base,I.loc,I.cell,I.free,I.freeC,fun p hp=>I.pin p (B1 _ hp),I.hok,I.len⟩
theorem SP.less {D:Ends} {f:Flow} {s':Ae} (h:SP (X.more pins) ps2 D f s'):SP X pins D f s':=by
 cases f with
 | next=>obtain ⟨σ',H',I,q⟩:=h;exact ⟨σ',H',I.less,q⟩
 | brk=>obtain ⟨σ',H',I,q⟩:=h;exact ⟨σ',H',I.less,q⟩
 | cont=>obtain ⟨σ',H',I,q⟩:=h;exact ⟨σ',H',I.less,q⟩
 | ret u=>obtain ⟨v,σ',H',I,r,q⟩:=h;exact ⟨v,σ',H',I.less,r,q⟩
abbrev Cx.tryC (X:Cx) (pins:List (Ac×Obj)) (E1:XK):Cx:=(X.more pins).wish fun e s'=>∃ (ps:List (Ac×Obj)) (σ':St) (H0:Hp) (s0:Ae),Inv (X.more pins) ps σ' H0 s0∧CX1 X.prog X.w X.stack H0 s0 E1 e s'
theorem qkx {E1:XK}:JT (CX1 X.prog X.w) (X.tryC pins E1) E1:=fun ps σ H s _ _ I h=>⟨ps,σ,H,s,I.unwish,h⟩
abbrev Cx.suite (X:Cx) (ea:Ac):Cx:={X with A:=X.A.mark (some (.ref ea)),calm:=false,xe:=fun _ _=>False}
theorem Inv.suite (I:Inv X pins σ H s) (ea:Ac):Inv (X.suite ea) pins σ H s:=
 ⟨⟨I.ok.mod,I.ok.kind,I.ok.glob,I.ok.blt,I.ok.above,I.ok.inj,I.ok.has,I.ok.cab,fun z=>Bool.noConfusion z,I.ok.frames,I.ok.stk,I.ok.exf,I.ok.bs,I.ok.bsz,I.ok.noex,I.ok.exfs,I.ok.funs,I.ok.frf⟩,I.os,I.bare,I.base,I.loc,I.cell,I.free,I.freeC,I.pin,I.hok,I.len⟩
theorem Inv.unsuite (I0:X.Ok) {ea:Ac} (I:Inv (X.suite ea) pins σ H s):Inv X pins σ H s:=
 ⟨I0,I.os,I.bare,I.base,I.loc,I.cell,I.free,I.freeC,I.pin,I.hok,I.len⟩
theorem Inv.trackN {D:Ac} {o:HO} (I:Inv X pins σ H s) (h0:H D=none) (hL:D≠X.env.locals) (hs:X.s₀.heap.get? D=none) (hc:∀ x c,X.env.cells.lookup x=some c→c≠D) (hp:∀ p∈X.pn++pins,p.1≠D)
  (new:zq X.prog X.w (upd H D o) s.heap D o):Inv X pins σ (upd H D o) s:=by
 have nD:∀ b u,H b=some u→b≠D:=fun b u q=>qC q h0;refine ⟨I.ok,I.os,I.bare,⟨I.base.keep,I.base.slot,fun b ob e n hx=>?_,I.base.there,fun b xs e=>?_,fun b ob u e=>?_,fun b ps e=>?_⟩,I.loc,I.cell,by rw [qu (Ne.symm hL)];exact I.free,fun x c e=>by rw [qu (hc x c e)];exact I.freeC x c e,fun p hpp=>?_,fun b u e=>?_,I.len⟩
 ·rw [qu (fun z=>by rw [z,hs] at e;cases e)]
  exact I.base.free b ob e n hx
 ·have q:=I.base.tups b xs e;rw [qu (nD _ _ q)];exact q
 ·have q:=I.base.frzs b ob u e;rw [qu (nD _ _ q)];exact q
 ·obtain ⟨mo,q⟩:=I.base.tbls b ps e;exact ⟨mo,by rw [qu (nD _ _ q)];exact q⟩
 ·obtain ⟨e,n,r⟩:=I.pin p hpp;exact ⟨e,by rw [qu (hp p hpp)];exact n,r⟩
 ·by_cases hb:b=D
  ·subst hb;rw [upd_same] at e;cases e;exact new
  ·rw [qu hb] at e;exact (I.hok b u e).stay (fun c v _ q=>q) (fun c q=>by rw [qu (nD _ _ q)];exact q) fun c xs q=>by rw [qu (nD _ _ q)];exact q
end
end L2
set_option tactic.hygienic true
namespace L2
open PySem PySem.Spec PyProof.Rows
def PEp (X:Cx) (e:Expr) (t:TE):Prop:=
 ∀ (pins:List (Ac×Obj)) (s:Ae) (σ:St) (H:Hp) (Q:VK),1≤s.toks→Inv X pins σ H s→t σ H Q→wpAny (model X.prog X.w) X.A (eval e X.env) (EP X pins σ Q) X.xe s
def PSp (X:Cx) (st:List Stmt) (t:TS):Prop:=
 ∀ (pins:List (Ac×Obj)) (s:Ae) (σ:St) (H:Hp) (D:Ends),1≤s.toks→Inv X pins σ H s→t D σ H→wpAny (model X.prog X.w) X.A (execs st X.env) (SP X pins D) X.xe s
section
variable {X:Cx} {K:Frag} {e o:Expr} {es:List Expr} {te to:TE} {st:Stmt} {rest:List Stmt} {t u:TS} {pos apos cpos:Pos}
theorem PE.toP (h:PE X e te):PEp X e te:=fun pins s σ H Q _ I q=>h pins s σ H Q I q
theorem qd3 (h1:PS X st t) (h2:PSp X rest u):PSp X (st::rest) (qO t u):=by
 intro pins s σ H D hp I h;refine wpAny_execs_cons (wpAny_with_toks hp (C9 (h1 pins s σ H {D with nx:=u D} I h) (fun f s1 q hp1=>?_) fun _ _ z _=>z))
 cases f with
 | next=>
  obtain ⟨σ',H',I',q⟩:=q;exact h2 pins s1 σ' H' D hp1 I' q
 | ret v=>exact q
 | brk=>exact q
 | cont=>exact q
theorem qgu (he:PEp X e te):PSp X [.Return (some e) pos] (zS te):=by
 intro pins s σ H D hp I h;refine wpAny_execs_cons (wpAny_Return_some (thn (he pins s σ H _ hp I h) fun v s1 ⟨x,H1,I1,r1,q1⟩=>?_));exact ⟨x,σ,H1,I1,r1,q1⟩
def qka (c z:Str) (to:TE):TE:=fun σ H Q=>to σ H fun x H1=>∃ y,x= .str y∧y.length+(y.length+1)*z.length≤16777216∧Q (.str (Txt.replace y c z)) H1
theorem wF {c z:Str} {j1 j2:Nat} {p1 p2:Pos} (ho:PEp X o to) (hcz:(c==z)=false:=by decide+kernel)
  (hbase:attributeBase o "replace" X.env (eval o X.env)=eval o X.env:=by rfl)
  (hfew:((backTo cpos (starEach [.Constant (.str c) j1 p1,.Constant (.str z) j2 p2] X.env)).all (fun x=>!x.1)&&(backToKw cpos (keywordEach [] X.env)).all (fun x=>x.1.isSome)
   &&decide (([.Constant (.str c) j1 p1,.Constant (.str z) j2 p2]:List Expr).length+([]:List Keyword).length+(if ([]:List Keyword).isEmpty then 0 else 1)<30))=true:=by rfl)
  (hline:(apos.endLine==cpos.line)=true:=by rfl):
  PEp X (.Call (.Attribute o "replace" apos) [.Constant (.str c) j1 p1,.Constant (.str z) j2 p2] [] cpos) (qka c z to):=by
 intro pins s σ H Q hp I h;refine wpAny_Call_method_late hbase hfew hline rfl (wpAny_with_toks hp (C9 (ho pins s σ H _ hp I h) (fun v s1 ⟨x,H1,I1,r1,y,e,hz,q⟩ hp1=>?_) fun _ _ z _=>z));subst e;obtain ⟨t,rfl⟩:=r1;refine ⟨"str","str.replace",F.plainAttrs_str,F.slot_str_replace,F.type_str_replace,typeIs_str _ _ _,(fun a z=>by cases z),?_⟩
 refine Ea rfl (Calls.evalArgs_plain (Calls.spliced_cons (Calls.Constant_str (k:=j1) (pos:=p1) (Calls.spliced_cons (Calls.Constant_str (k:=j2) (pos:=p2) (Calls.spliced_nil ?_))))));exact SC.replace (fun z=>by have:s1.toks=0:=z;omega) (fun z=>by have:s1.toks+1=0:=z;omega) (fun z=>by have:s1.toks=s1.toks+1:=z;omega) hcz hz fun t' k=>⟨.str _,H1,I1.tok k,⟨t',rfl⟩,q⟩
def qiu:V→List V→Hp→VK→Prop:=fun x xs H Q=>∃ y,x= .str y∧xs=[]∧y.length≤1000000∧∀ l,H l=none→Q (.ref l) (upd H l (.lst ((Txt.words y).map V.str)))
theorem VS:∀ (k:Nat) (xs:List Str),qH (xs.map V.str) (strValues (numbered k xs))
 | _,[]=> .nil
 | k,_::r=> .cons ⟨k,rfl⟩ (VS (k+1) r)
theorem qba (y:Str):(Txt.words y).length≤y.length+1:=by
 have:=StrLaws.words_weight y;omega
theorem qeo:MtR X "str.split" qiu:=by
 intro pins s σ H x xs v us Q I rx r h;obtain ⟨y,rfl,rfl,hz,q⟩:=h;obtain ⟨t,rfl⟩:=rx;cases r;have hz':y.length≤Af:=by rw [Ed];omega
 have hw:(Builtin.Str.spaceWords y (y.length+1)).length≤Af:=by
  have h1:=(StrLaws.sw_weight y).1;have h2:=StrLaws.len_le_wsum (Builtin.Str.spaceWords y (y.length+1));rw [Ed];omega
 have hwl:((Txt.words y).map V.str).length≤Af:=by
  have:=qba y;rw [Ah,Ed];omega
 have lay:∀ (its:List Ab) (tk:Nat),qH ((Txt.words y).map V.str) its→EP X pins σ Q (.ref s.heap.objs.size) {s with heap:=s.heap.push {cls:= .type "list",data:= .seq its.toArray},toks:=tk}:=fun its tk rv=>
  ⟨.ref s.heap.objs.size,upd H s.heap.objs.size (.lst ((Txt.words y).map V.str)),I.laid (fun b o e=>Av _ e) (Ax _) ⟨hwl,its,0,rv,Bh _ rfl⟩,rfl,q _ (I.hok.fresh (Ax _))⟩
 refine E2 F.slot_str_split (typeIs_str _ _ _) F.entry_str_split (F.args_str_split_1 _) (meets_str_split_space y t hz' hw) ?_;cases he:Builtin.Str.spaceWords y (y.length+1)==[(0,y.length)]
 ·simp only [Dc,if_false];rw [strsFrom_eq];refine lay _ _ ?_;have e:Txt.words y=wordsOf y:=if_neg (ne_true_of_eq_false he);rw [e];exact VS _ _
 ·simp only [if_true];refine lay [.str y t] s.toks ?_;have e:Txt.words y=[y]:=if_pos he;rw [e];exact .cons ⟨t,rfl⟩ .nil
theorem qgx {name:Str} {T id:String} {r:V→List V→Hp→VK→Prop} (hK:X.K=K) (pa:PlainAttrs T) (slot:Slot T name id) (hty:typeOf (.builtin id)=pure (.type "method_descriptor")) (hm:MtR X id r) (ho:PEp X o to)
  (hbase:attributeBase o name X.env (eval o X.env)=eval o X.env:=by rfl) (hline:(apos.endLine==cpos.line)=true:=by rfl):PEp X (.Call (.Attribute o name apos) [] [] cpos) (qgb K T r to):=by
 subst hK;intro pins s σ H Q hp I h;refine wpAny_Call_method0_late hbase hline (thn (ho pins s σ H _ hp I h) fun v s1 ⟨x,H1,I1,r1,ty,q1⟩=>?_);obtain ⟨h1,h2⟩:=Z3 I1 r1 ty;exact ⟨T,id,pa,slot,hty,h1,h2,Ea rfl (PySem.evalArgs_none (hm pins s1 σ H1 x [] v [] Q I1 r1 .nil q1))⟩
theorem vR (hK:X.K=K):OpR X (compareOp .In) (rIn K false):=hK▸qbx
theorem qek (hK:X.K=K):OpR X (compareOp .NotIn) (rIn K true):=hK▸Xp
end
theorem Y0 {kindOf:Str→Option NameKind}:∀ (l:List (Str×Ab)) (m:Str→Option Ab),(∀ y∈l,kindOf y.1=some .local)→bindL kindOf l m=fun x=>(l.reverse.lookup x).or (m x)
 | [],m,_=>rfl
 | (n,v)::r,m,h=>by
  have hn:kindOf n=some .local:=h (n,v) Au;show bindL kindOf r (if kindOf n=some .local then fun y=>if y=n then some v else m y else m)=_
  rw [if_pos hn,Y0 r _ fun y hy=>h y (Ao _ hy)];funext x;rw [Ee,List.lookup_append];cases r.reverse.lookup x with
  | some z=>rfl
  | none=>
   show (if x=n then some v else m x)=(List.lookup x [(n,v)]).or (m x)
   rw [Bg]
   by_cases hx:x=n
   ·subst hx;simp
   ·have:(x==n)=false:=by simpa using hx
    rw [if_neg hx,this];rfl
theorem yp:∀ (n:Nat) (names:List (Str×NameKind)),(∀ y∈names,y.2≠ .cell)→cellsFrom n names []=[]
 | _,[],_=>rfl
 | n,(a,k)::r,h=>by
  have hk:(k==NameKind.cell)=false:=by simpa using h (a,k) Au
  show (if (k==NameKind.cell)=true then _ else cellsFrom n r [])=[]
  rw [hk,if_neg Ai];exact yp n r fun y hy=>h y (Ao _ hy)
theorem Fun.okp {P:Program} {w:World} {K:Frag} {mg:Str→Option Ab} {base:Heap} {x qual:Str} {st:Stmt} {f:Ac} {fd:FuncData} {N ps:List Str} {k:Nat} {sp:Sp} (F:Fun K x qual st f fd) (S:FnScope N ps (qj st)) (hc:∀ y∈(qj st).names,y.2≠ .cell) (hps:1≤ps.length)
  (len:∀ vs H Q E,sp vs H Q E→vs.length=ps.length)
  (hbody:∀ (cdv:Ab) (A:Around) (outer:List Env) (s:Ae) (H:Hp) (vs:List V) (Q:VK) (E:XK),Room k (A.deeper (envOfC qual (qj st) s.heap.objs.size f cdv))→sp vs H Q E→
   ∃ t,PSp (Wb (CX1 P w) P w K mg base N qual (qj st) f cdv A outer s H E) (jh st) t∧t {nx:=fun _ H'=>Q .non H',rt:=Q} (start N vs) H):FnOk P w K mg base (CX1 P w) (k+1) f fd ps sp:=by
 obtain ⟨oc,od,kV,doc,pm,an,cdv,ct,osl,rfl,lk,hcd⟩:=F.ex;refine ⟨len,fun A outer s H args us vs Q E hr e0 hb r hsp=>?_⟩;have hl:=len _ _ _ _ hsp;have KX:K.In s.heap:=e0.mod.kin.keeps fun b o e=>(e0.bs b o e).1;have lim:s.heap.NoLimit:=e0.mod.nolimit.keeps fun b o e=>(e0.bs b o e).1;have hloc:∀ y∈ps.zip us,(qj st).names.lookup y.1=some .local:=fun ⟨n,v⟩ hy=>by
  rcases S.par n (C0 hy).1 with q | q
  ·exact q
  ·exact absurd rfl (hc _ (A5 q))
 refine codeAny_call_function hr.depth (KX _ _ lk) rfl S.co S.gen rfl (PySem.W.codeRec_of KX hcd) (hb _ _ _ _ ?_);refine wpAny_newFunctionEnv hc hloc (fun h1 hns sb=>?_) S.kind;have hcell:=yp (s.heap.objs.size+1) (qj st).names hc;have keep:∀ b o,s.heap.get? b=some o→h1.get? b=some o:=fun b o e=>(sb.2 b (Bu (A7 e))).trans (Av _ e);have x1:InCallC s s.heap.objs.size (bindL (envOfC qual (qj st) s.heap.objs.size f cdv).kindOf (ps.zip us) fun _=>none) (cellsFrom (s.heap.objs.size+1) (qj st).names []) (bindC (envOfC qual (qj st) s.heap.objs.size f cdv).kindOf (ps.zip us) fun _=>none) {s with heap:=h1,toks:=s.toks+(ps.zip us).length}:=by
  rw [hcell];refine ⟨⟨⟨_,_,rfl⟩,?_,keep,Ax _⟩,(fun n c e=>by cases e),.nil,(fun n c e=>by cases e)⟩
  rw [Y0 _ _ hloc];have e:(fun x=>((ps.zip us).reverse.lookup x).or (none:Option Ab))=fun x=>(ps.zip us).reverse.lookup x:=by funext x;simp
  rw [e];exact hns
 refine ⟨lim.keeps keep,?_⟩;obtain ⟨t,ht,hq⟩:=hbody cdv A outer s H vs Q E (hr.deeper _) hsp;have I:=YK (CX:=CX1 P w) (P:=P) (w:=w) (K:=K) (mg:=mg) (base:=base) (E:=E) (qual:=qual) (f:=f) (cd:=cdv) S hr.hd e0 hl r x1;have henv:(newEnv (qj st) s.heap.objs.size Aq [] (qual++".<locals>.") (some f) cdv none builtinsNs:Env)=envOfC qual (qj st) s.heap.objs.size f cdv:=by
  show ({scope:=_,locals:=_,globals:=_,cells:=_,qual:=_,func:=_,code:=_,frame:=_,builtins:=_}:Env)={scope:=_,locals:=_,globals:=_,cells:=cellsFrom (s.heap.objs.size+1) (qj st).names [],qual:=_,func:=_,code:=_,frame:=_,builtins:=_};rw [hcell]
 have hlz:1≤(ps.zip us).length:=by
  have e1:=r.length;rw [Dd];omega
 show codeAny (model P w) A (Code.func (jh st) (newEnv (qj st) s.heap.objs.size Aq [] (qual++".<locals>.") (some f) cdv none builtinsNs)) (CR (CX1 P w) outer P w H s Q E) _;rw [henv];refine codeAny_func (C9 (ht [] _ (start N vs) H _ (show 1≤s.toks+(ps.zip us).length from ⋯) I hq) (fun fl s' hs=>?_) fun e s' hs=>hs);have fin:∀ {σ':St} {H':Hp} {v:V} {u:Ab},Inv (Wb (CX1 P w) P w K mg base N qual (qj st) f cdv A outer s H E) [] σ' H' s'→qL v u→Q v H'→CE outer P w H s Q u s':=
  fun {σ' H' v u} J rv q=>⟨v,H',J.os,J.bare,J.base,J.hok,rv,q⟩
 cases fl with
 | ret u=>obtain ⟨v,σ',H',J,rv,q⟩:=hs;exact fin J rv q
 | next=>obtain ⟨σ',H',J,q⟩:=hs;exact fin (v:=V.non) (u:=Value.none) J rfl q
 | brk=>obtain ⟨_,_,_,q⟩:=hs;exact False.elim q
 | cont=>obtain ⟨_,_,_,q⟩:=hs;exact False.elim q
structure DefX (P:Program) (w:World) (K:Frag) (mg:Str→Option Ab) (base:Heap) (k:Nat) (x:Str) (ps:List Str) (sp:Sp):Prop where
 ex:∃ (f:Ac) (fd:FuncData),FnOk P w K mg base (CX1 P w) k f fd ps sp∧Jf K fd ps []∧PySem.W.keepIn K (.ref f)=true∧mg x=some (.ref f)
theorem VN {X:Cx} {k:Nat} {x:Str} {ps:List Str} {sp:Sp} {E:XK} {e:Expr} {es:List Expr} {t:TA} {p pos:Pos} (D:DefX X.prog X.w X.K X.mg X.base k x ps sp) (hr:Room k X.A) (hx:JT (CX1 X.prog X.w) X E) (ha:PA X (e::es) t) (hg:Gl X x:=by rfl)
  (hdb:(x==("__debug__":Str))=false:=by decide) (he:starEach (e::es) X.env=(false,eval e X.env)::starEach es X.env:=by rfl) (hpl:(backTo pos (starEach es X.env)).any (·.1)=false:=by rfl):
  PE X (.Call (.Name x p) (e::es) [] pos) (qI sp [] E t):=by
 obtain ⟨f,fd,F,B,kp,m⟩:=D.ex;exact qaj F hr hg m kp B .nil hx ha hdb he hpl
theorem qed {X:Cx}:JT (CX1 X.prog X.w) X E0:=fun _ _ _ _ _ _ _ h=>by
 obtain ⟨_,_,_,_,_,q⟩:=h;exact q.elim
theorem qf3 {K:Frag} {C:Ac} (q:PySem.W.excIn K C bmVE "ValueError.__new__"=true):qj5 K C:=by
 intro h X;unfold PySem.W.excIn at q;split at q
 case h_2=>cases q
 rename_i dd cd sl ho;split at q
 case h_2=>cases q
 rename_i C' bm k0 k1 k2 k3 n k5 hm hs;simp only [Al,Az,Bool.not_eq_true'] at q;obtain ⟨⟨⟨⟨⟨e1,e2⟩,hdel⟩,ht⟩,hok⟩,hni⟩:=q;subst e1 e2;obtain ⟨nm,bs,mro,ns,qn,hd,sn,sub,ab,col,del⟩:=cd;dsimp only at hm hdel hok hni;subst hm hdel;have e3:sl= #[k0,k1,k2,k3,some (.builtin "ValueError.__new__"),k5]:=Array.ext' (by simpa using hs)
 subst e3;exact ⟨bm,ns,nm,qn,bs,hd,sn,sub,ab,col,dd,k0,k1,k2,k3,k5,_,X _ _ ho,.of_isNs (PySem.W.isNs_of_in X hok),PySem.W.nsMap_none_of_in X hok hni,PySem.W.tail_of_in X ht⟩
end L2
set_option tactic.hygienic false
namespace L2
open PySem PySem.Spec PyProof.Rows
inductive EntsAre (p:Params):List DictEntry→List (Str×Ab)→Prop
 | nil:EntsAre p [] []
 | cons {x:Str} {t:Tok} {v:Ab} {es:List DictEntry} {r:List (Str×Ab)}:EntsAre p es r→EntsAre p (⟨PyData.keyHash p x,.str x t,v⟩::es) ((x,v)::r)
def qa6 (P:Program) (w:World) (K:Frag) (a:Ac) (kvs:List (Str×Ab)):Prop:=∀ h:Heap,K.In h→h.DictOf (zb P w) a (kvs.map fun e=>((Sum.inr e.1:Key),e.2))
section
variable {P:Program} {w:World} {K:Frag} {a:Ac}
theorem YS {p:Params}:∀ {es:List DictEntry} {kvs:List (Str×Ab)},EntsAre p es kvs→∀ e∈es,∃ x t,e.key= .str x t∧e.hash=PyData.keyHash p x
 | _,_,.nil,e,he=>by cases he
 | _,_,.cons (x:=x) (t:=t) h,e,he=>by
  rcases Ap.mp he with rfl | he
  ·exact ⟨x,t,rfl,rfl⟩
  ·exact YS h e he
theorem ym {p:Params}:∀ {es:List DictEntry} {kvs:List (Str×Ab)},EntsAre p es kvs→Pairs (zb P w) es (kvs.map fun e=>((Sum.inr e.1:Key),e.2))
 | _,_,.nil=> .nil
 | _,_,.cons (x:=x) (t:=t) h=> .cons (JZ x t) rfl (ym h)
theorem ye {es:List DictEntry} {n:Nat} {kvs:List (Str×Ab)} (l:K.lookup a=some {cls:= .type "dict",data:= .dict es.toArray n}) (e:EntsAre w.params es kvs) (nd:(kvs.map (·.1)).Nodup):qa6 P w K a kvs:=by
 intro h X;refine ⟨_,es.toArray,n,X _ _ l,⟨rfl,rfl,rfl⟩,rfl,fun en hen=>?_,by simpa using ym e,?_⟩
 ·obtain ⟨x,t,e1,e2⟩:=YS e en (by simpa using hen)
  refine ⟨Sum.inr x,?_,?_⟩
  ·rw [e1];exact JZ x t
  ·rw [e2];rfl
 ·rw [Bv];have:(((·.1):Key×Ab→Key) ∘ fun e:Str×Ab=>((Sum.inr e.1:Key),e.2))=(Sum.inr:Str→Key) ∘ (·.1):=rfl;rw [this,← Bv];exact (List.pairwise_map.mpr (nd.imp fun hne z=>hne (Sum.inr.inj z)))
theorem WE:∀ (kvs:List (Str×Ab)) (x:Str),valueAt (kvs.map fun e=>((Sum.inr e.1:Key),e.2)) (Sum.inr x)=(kvs.find? fun e=>decide (e.1=x)).map (·.2)
 | [],_=>rfl
 | (y,v)::r,x=>by
  have ih:=WE r x;unfold valueAt at ih ⊢;rw [As,C1,C1]
  by_cases h:y=x
  ·subst h;simp
  ·have h1:¬ (Sum.inr y:Key)=Sum.inr x:=fun z=>h (Sum.inr.inj z);simp only [Ar h1,Ar h];exact ih
end
inductive TabT (K:Frag):List (Str×List Str)→List (Str×Ab)→Prop
 | nil:TabT K [] []
 | cons {x:Str} {l:List Str} {a:Ac} {T:List (Str×List Str)} {r:List (Str×Ab)}:(∀ H:Hp,SqT K H a (l.map V.str))→TabT K T r→TabT K ((x,l)::T) ((x,.ref a)::r)
inductive TabS:List (Str×Str)→List (Str×Ab)→Prop
 | nil:TabS [] []
 | cons {x y:Str} {t:Tok} {T:List (Str×Str)} {r:List (Str×Ab)}:TabS T r→TabS ((x,y)::T) ((x,.str y t)::r)
theorem TabT.get {K:Frag}:∀ {T:List (Str×List Str)} {r:List (Str×Ab)} {x:Str} {l:List Str},TabT K T r→T.lookup x=some l→∃ a,(r.find? fun e=>decide (e.1=x)).map (·.2)=some (.ref a)∧∀ H:Hp,SqT K H a (l.map V.str)
 | _,_,_,_,.nil,e=>by cases e
 | _,_,x,l,.cons (x:=y) (a:=a) h t,e=>by
  rw [Bg] at e
  by_cases hx:y=x
  ·subst hx;simp only [beq_self_eq_true] at e;cases e;exact ⟨a,by simp,h⟩
  ·have:(x==y)=false:=by simpa using fun z=>hx z.symm
   rw [this] at e;obtain ⟨b,h1,h2⟩:=TabT.get t e;exact ⟨b,by rw [C1,Ar hx];exact h1,h2⟩
theorem TabS.get:∀ {T:List (Str×Str)} {r:List (Str×Ab)} {x y:Str},TabS T r→T.lookup x=some y→∃ t,(r.find? fun e=>decide (e.1=x)).map (·.2)=some (.str y t)
 | _,_,_,_,.nil,e=>by cases e
 | _,_,x,y,.cons (x:=z) (t:=t) h,e=>by
  rw [Bg] at e
  by_cases hx:z=x
  ·subst hx;simp only [beq_self_eq_true] at e;cases e;exact ⟨t,by simp⟩
  ·have:(x==z)=false:=by simpa using fun q=>hx q.symm
   rw [this] at e;obtain ⟨u,h1⟩:=TabS.get h e;exact ⟨u,by rw [C1,Ar hx];exact h1⟩
def Zc (K:Frag) (T:List (Str×List Str)) (ti:TE):TE:=fun σ H Q=>ti σ H fun y H1=>∃ x l,y= .str x∧T.lookup x=some l∧∀ a,(∀ H:Hp,SqT K H a (l.map V.str))→Q (.ref a) H1
def qh3 (T:List (Str×Str)) (ti:TE):TE:=fun σ H Q=>ti σ H fun y H1=>∃ x z,y= .str x∧T.lookup x=some z∧Q (.str z) H1
structure KTabT (P:Program) (w:World) (K:Frag) (mg:Str→Option Ab) (nm:Str) (T:List (Str×List Str)):Prop where
 ex:∃ (a:Ac) (kvs:List (Str×Ab)),mg nm=some (.ref a)∧qa6 P w K a kvs∧TabT K T kvs
structure KTabS (P:Program) (w:World) (K:Frag) (mg:Str→Option Ab) (nm:Str) (T:List (Str×Str)):Prop where
 ex:∃ (a:Ac) (kvs:List (Str×Ab)),mg nm=some (.ref a)∧qa6 P w K a kvs∧TabS T kvs
section
variable {X:Cx} {K:Frag} {nm:Str} {np pos:Pos} {i:Expr} {ti:TE}
theorem Za {pins:List (Ac×Obj)} {σ:St} {H:Hp} {s:Ae} {a:Ac} {kvs:List (Str×Ab)} {x:Str} {v u:Ab} {Q:Ab→Ae→Prop} {A:Around} {E:Ab→Ae→Prop} (I:Inv X pins σ H s) (D:qa6 X.prog X.w X.K a kvs) (r:qL (.str x) u)
  (hv:(kvs.find? fun e=>decide (e.1=x)).map (·.2)=some v) (h:Q v {s with toks:=s.toks+1}):wpAny (model X.prog X.w) A (getItem (.ref a) u) Q E s:=by
 obtain ⟨t,rfl⟩:=r;exact wpAny_getItem_of (knd:=zb X.prog X.w) (k:=Sum.inr x) (JZ x t) (D _ I.kIn).mapOf ((WE kvs x).trans hv) h
theorem JI {T:List (Str×List Str)} (hK:X.K=K) (D:KTabT X.prog X.w X.K X.mg nm T) (hi:PE X i ti) (hs:qhx i) (hg:Gl X nm:=by rfl) (hd:(nm==("__debug__":Str))=false:=by decide):PE X (.Subscript (.Name nm np) i pos) (Zc K T ti):=by
 subst hK;obtain ⟨a,kvs,hm,kd,tb⟩:=D.ex;intro pins s σ H Q I h;refine Xd PySem.F.slot_dict_getitem.lookup hs (JJ I hg hm (thn (hi pins s σ H _ I h) fun u s1 ⟨y,H1,I1,r1,x,l,e,hl,q1⟩=>?_) hd);subst e;obtain ⟨b,h1,h2⟩:=tb.get hl;exact ⟨(kd _ I1.kIn).mapOf.typeIs,Za I1 kd r1 h1 ⟨.ref b,H1,I1.tok _,rfl,q1 b h2⟩⟩
theorem Wp {T:List (Str×Str)} (D:KTabS X.prog X.w X.K X.mg nm T) (hi:PE X i ti) (hs:qhx i) (hg:Gl X nm:=by rfl) (hd:(nm==("__debug__":Str))=false:=by decide):PE X (.Subscript (.Name nm np) i pos) (qh3 T ti):=by
 obtain ⟨a,kvs,hm,kd,tb⟩:=D.ex;intro pins s σ H Q I h;refine Xd PySem.F.slot_dict_getitem.lookup hs (JJ I hg hm (thn (hi pins s σ H _ I h) fun u s1 ⟨y,H1,I1,r1,x,z,e,hl,q1⟩=>?_) hd);subst e;obtain ⟨t,h1⟩:=tb.get hl;exact ⟨(kd _ I1.kIn).mapOf.typeIs,Za I1 kd r1 h1 ⟨.str z,H1,I1.tok _,⟨t,rfl⟩,q1⟩⟩
end
theorem zm {K:Frag} {a:Ac} {its:List Ab} {n:Nat} {l:List Str} (h:K.lookup a=some {cls:= .type "tuple",data:= .seq its.toArray n}) (v:qH (l.map V.str) its) (hz:its.length≤1000):∀ H:Hp,SqT K H a (l.map V.str):=
 fun _=> .inr ⟨_,its.toArray,n,h,rfl,rfl,by rw [A6];exact Aw hz O0,by simpa using v⟩
section
variable {prog:Program} {w:World} {A:Around} {E:Ab→Ae→Prop} {s:Ae}
theorem Vr {it t:Ac} {i:Nat} {items:Array Ab} {x:Ab} {Q:Ab→Ae→Prop} (hit:s.heap.IsTupleIter it t i) (ht:s.heap.IsTuple t items) (hx:items[i]?=some x)
  (hQ:∀ h',h'.IsTupleIter it t (i+1)→Heap.SameBut it s.heap h'→Q x {s with heap:=h'}):wpAny (model prog w) A (Builtin.SmallTypes.nextOf (.ref it)) Q E s:=by
 obtain ⟨o,ho,hc,hd⟩:=id hit;obtain ⟨ol,hol,_,nl,hdl⟩:=ht;unfold Builtin.SmallTypes.nextOf;refine Am (Df (name:=Str.ofString "__next__") hit.typeIs Dt (Eh Dt hit.typeIs F.entry_tuple_iterator_next ?_ (F.args_tuple_iterator_next_1 _)));show wpAny _ _ (field (.ref it) 0>>=_) _ _ s;refine Am (C2 ho hd (x:= .ref t) rfl ?_);show wpAny _ _ (if (Value.ref t==Value.none)=true then _ else _) _ _ s;rw [if_neg (show ¬ ((Value.ref t==Value.none)=true) from Ai)]
 show wpAny _ _ (field (.ref it) 1>>=_) _ _ s;refine Am (C2 ho hd (x:= .int i 0) rfl ?_);show wpAny _ _ (seqItems? (.ref t)>>=_) _ _ s;refine Am (Di hol hdl ?_);simp only [Int.toNat_natCast,hx];refine Am (wpAny_setField ho hd (by simp) (A8 ⟨x,rfl,A8 (hQ _ ⟨_,Heap.get?_update_self _ ho (Obj.isFreed_of_fields (Obj.data_mapFields hd _)),(Obj.cls_mapFields ..).trans hc,?_⟩ (Heap.SameBut.update ..))⟩))
 rw [Obj.data_mapFields hd];simp [rawInt]
theorem YC {it t:Ac} {i:Nat} {items:Array Ab} {Q:Ab→Ae→Prop} (hh:A.handled=none) (hit:s.heap.IsTupleIter it t i) (ht:s.heap.IsTuple t items) (hx:items[i]?=none)
  (hE:∀ h' e,Heap.ExtBut it s.heap h'→(∃ o,h'.get? e=some o∧o.cls= .type "StopIteration")→E (.ref e) {s with heap:=h'}):wpAny (model prog w) A (Builtin.SmallTypes.nextOf (.ref it)) Q E s:=by
 obtain ⟨o,ho,hc,hd⟩:=id hit;obtain ⟨ol,hol,_,nl,hdl⟩:=ht;unfold Builtin.SmallTypes.nextOf;refine Am (Df (name:=Str.ofString "__next__") hit.typeIs Dt (Eh Dt hit.typeIs F.entry_tuple_iterator_next ?_ (F.args_tuple_iterator_next_1 _)));show wpAny _ _ (field (.ref it) 0>>=_) _ _ s;refine Am (C2 ho hd (x:= .ref t) rfl ?_);show wpAny _ _ (if (Value.ref t==Value.none)=true then _ else _) _ _ s;rw [if_neg (show ¬ ((Value.ref t==Value.none)=true) from Ai)]
 show wpAny _ _ (field (.ref it) 1>>=_) _ _ s;refine Am (C2 ho hd (x:= .int i 0) rfl ?_);show wpAny _ _ (seqItems? (.ref t)>>=_) _ _ s;refine Am (Di hol hdl ?_);simp only [Int.toNat_natCast,hx];refine Am (wpAny_rule (Am (wpAny_setField ho hd (by simp) ?_)));show wpAny _ _ (newExc (.type "StopIteration") []>>=_) _ _ _
 refine Am ?_;simp only [newExc,newTuple];refine Am (C8 ?_ (by size_fits))
 refine Am (m:=firstArgMember _ _) (wpAny_of_eq (a:=Value.none) (by first | rfl | (simp only [firstArgMember];rfl)) ?_);refine C8 ?_ (by size_fits)
 simp only [raiseNew];refine Am (wpAny_handled ?_);first | rw [show A.in1.handled=none from hh] | rw [hh]
 refine Am (A8 (wpAny_throw (hE _ _ (((Heap.SameBut.update ..).extBut.push _).push _) ⟨_,Bh _ rfl,rfl⟩)))
structure ZipAt (z TI TO i1 i2 l1 l2:Ac) (i:Nat) (h:Heap):Prop where
 hz:IsZip h z TI TO .none
 hTI:IsPair h TI (.ref i1) (.ref i2)
 hTO:∃ a b,IsPair h TO a b
 h1:h.IsTupleIter i1 l1 i
 h2:h.IsTupleIter i2 l2 i
theorem qa8 {z TI TO i1 i2 l1 l2:Ac} {i:Nat} {xs ys:Array Ab} {x y:Ab} {Q:Option Ab→Ae→Prop} (D:ZipApart z TI TO i1 i2 l1 l2) (Z:ZipAt z TI TO i1 i2 l1 l2 i s.heap)
  (hl1:s.heap.IsTuple l1 xs) (hl2:s.heap.IsTuple l2 ys) (hx:xs[i]?=some x) (hy:ys[i]?=some y)
  (hQ:∀ h',IsZip h' z TI TO (rawInt s.heap.objs.size)→IsPair h' TO x y→h'.IsTupleIter i1 l1 (i+1)→h'.IsTupleIter i2 l2 (i+1)→IsPair h' s.heap.objs.size x y→h'.objs.size=s.heap.objs.size+1→
   (∀ c o,c≠z→c≠TO→c≠i1→c≠i2→s.heap.get? c=some o→h'.get? c=some o)→Q (some (.ref s.heap.objs.size)) {s with heap:=h'}):
  wpAny (model prog w) A (pyNext (.ref z)) Q E s:=by
 obtain ⟨hz,hTI,⟨a,b,hTO⟩,h1,h2⟩:=Z;have hT:s.TypeIs (.ref z) "zip":=⟨_,hz,rfl⟩;unfold pyNext;refine Am (wpAny_attempt (Df (name:=Str.ofString "__next__") hT F.slot_zip_next (Eh F.slot_zip_next hT F.entry_zip_next ?_ (F.args_zip_next_1 _))));show wpAny _ _ (field (.ref z) 2>>=_) _ _ _;refine Am (C2 hz rfl (x:= .bool false) rfl ?_);show wpAny _ _ (field (.ref z) 3>>=_) _ _ _;refine Am (C2 hz rfl (x:= .ref TI) rfl ?_);refine Am (Di hTI rfl ?_);show wpAny _ _ (Builtin.SmallTypes.ownedTupleIsFree (.ref z)>>=_) _ _ _;refine Am ?_;unfold Builtin.SmallTypes.ownedTupleIsFree;refine Am (C2 hz rfl (x:= .none) rfl (A8 ?_));simp only [if_true];refine Am (wpAny_rule ?_);refine Am (C2 hz rfl (x:= .ref TO) rfl ?_);refine Am (Dn hz (by simp) fun g1 hz1 s1=>?_)
 replace hz1:IsZip g1 z TI TO .ellipsis:=hz1
 refine Am ?_;simp only [List.zipIdx_cons,List.zipIdx_nil,En,List.forIn_nil];refine Am (Am (wpAny_onRaise ?_));show wpAny _ _ (Builtin.SmallTypes.nextOf (.ref i1)>>=_) _ _ _;refine Am (Vr (h1.extBut s1.extBut D.i1z) (hl1.extBut s1.extBut D.l1z) hx fun g2 k2 s2=>A8 ?_);have hTO2:IsPair g2 TO a b:=s2.extBut _ _ D.TOi1 (s1.extBut _ _ D.TOz hTO);refine Am (Di hTO2 rfl ?_);refine Am (wpAny_updateSeq_pair hTO2 fun g3 hTO3 s3=>?_)
 replace hTO3:IsPair g3 TO x b:=hTO3
 refine Am (wpAny_letGo (A8 ?_));refine Am (Am (wpAny_onRaise ?_));show wpAny _ _ (Builtin.SmallTypes.nextOf (.ref i2)>>=_) _ _ _;refine Am (Vr (((h2.extBut s1.extBut D.i2z).extBut s2.extBut D.i12.symm).extBut s3.extBut D.TOi2.symm) (((hl2.extBut s1.extBut D.l2z).extBut s2.extBut D.l2i1).extBut s3.extBut D.l2TO) hy fun g4 k4 s4=>A8 ?_);have hTO4:IsPair g4 TO x b:=s4.extBut _ _ D.TOi2 hTO3;refine Am (Di hTO4 rfl ?_);refine Am (wpAny_updateSeq_pair hTO4 fun g5 hTO5 s5=>?_)
 replace hTO5:IsPair g5 TO x y:=hTO5
 refine Am (wpAny_letGo (A8 (A8 ?_)));refine Am (Di hTO5 rfl ?_);refine Am (wpAny_newTuple ?_);have e5:g5.objs.size=s.heap.objs.size:=by rw [s5.1,s4.1,s3.1,s2.1,s1.1]
 have z5:IsZip g5 z TI TO .ellipsis:=s5.extBut _ _ D.TOz.symm (s4.extBut _ _ D.i2z.symm (s3.extBut _ _ D.TOz.symm (s2.extBut _ _ D.i1z.symm hz1)));have k5:∀ c o,c≠z→c≠TO→c≠i1→c≠i2→s.heap.get? c=some o→g5.get? c=some o:=fun c o c1 c2 c3 c4 e=>s5.extBut _ _ c2 (s4.extBut _ _ c4 (s3.extBut _ _ c2 (s2.extBut _ _ c3 (s1.extBut _ _ c1 e))));have m1:g5.IsTupleIter i1 l1 (i+1):=((k2.extBut s3.extBut D.TOi1.symm).extBut s4.extBut D.i12).extBut s5.extBut D.TOi1.symm;have m2:g5.IsTupleIter i2 l2 (i+1):=k4.extBut s5.extBut D.TOi2.symm;have zlt:z<g5.objs.size:=A7 z5;show wpAny _ _ (Builtin.SmallTypes.ownedTupleHandOut (.ref z) (.ref g5.objs.size)>>=_) _ _ _;refine Am ?_;unfold Builtin.SmallTypes.ownedTupleHandOut;have z6:IsZip (g5.push {cls:= .type "tuple",data:= .seq #[x,y]}) z TI TO .ellipsis:=Av _ z5;refine Am (Dn z6 (by simp) fun g7 z7 s7=>?_)
 replace z7:IsZip g7 z TI TO (rawInt g5.objs.size):=z7
 refine Dn z7 (by simp) fun g8 z8 s8=>?_
 replace z8:IsZip g8 z TI TO (rawInt g5.objs.size):=z8
 have up:∀ c o,c≠z→g5.get? c=some o→g8.get? c=some o:=fun c o c1 e=>s8.extBut _ _ c1 (s7.extBut _ _ c1 (Av _ e));have t8:IsPair g8 g5.objs.size x y:=s8.extBut _ _ (Et zlt) (s7.extBut _ _ (Et zlt) (Bh _ rfl));have n8:g8.objs.size=g5.objs.size+1:=by rw [s8.1,s7.1,Cp]
 rw [e5] at z8 t8 n8;refine A8 ⟨_,rfl,?_⟩;refine A8 ?_;show Q (some (.ref g5.objs.size)) _;rw [e5];exact hQ g8 z8 (up _ _ D.TOz hTO5) (m1.at fun o e=>up _ o D.i1z e) (m2.at fun o e=>up _ o D.i2z e) t8 n8 fun c o c1 c2 c3 c4 e=>up c o c1 (k5 c o c1 c2 c3 c4 e)
theorem qct {z TI TO i1 i2 l1 l2:Ac} {i:Nat} {xs ys:Array Ab} {Q:Option Ab→Ae→Prop} (hh:A.handled=none) (D:ZipApart z TI TO i1 i2 l1 l2) (Z:ZipAt z TI TO i1 i2 l1 l2 i s.heap)
  (hl1:s.heap.IsTuple l1 xs) (hl2:s.heap.IsTuple l2 ys) (hend:xs[i]?=none∨ys[i]?=none)
  (hQ:∀ h',(∀ c o,c≠z→c≠TO→c≠i1→c≠i2→s.heap.get? c=some o→h'.get? c=some o)→Q none {s with heap:=h'}):wpAny (model prog w) A (pyNext (.ref z)) Q E s:=by
 obtain ⟨hz,hTI,⟨a,b,hTO⟩,h1,h2⟩:=Z;have hT:s.TypeIs (.ref z) "zip":=⟨_,hz,rfl⟩;unfold pyNext;have fin:∀ h' e,(∀ c o,c≠z→c≠TO→c≠i1→c≠i2→s.heap.get? c=some o→h'.get? c=some o)→(∃ o,h'.get? e=some o∧o.cls= .type "StopIteration")→
   wpAny (model prog w) A (do if ← isInstance (.ref e) (.type "StopIteration") then pure none else throw (.ref e)) Q E {s with heap:=h'}:=fun h' e hk ⟨o,ho,hc⟩=>
  Am (wpAny_isInstance (T:="StopIteration") (b:=true) ⟨o,ho,hc⟩ isSubtype_stop (A8 (hQ _ hk)))
 refine Am (wpAny_attempt (Df (name:=Str.ofString "__next__") hT F.slot_zip_next (Eh F.slot_zip_next hT F.entry_zip_next ?_ (F.args_zip_next_1 _))));show wpAny _ _ (field (.ref z) 2>>=_) _ _ _;refine Am (C2 hz rfl (x:= .bool false) rfl ?_);show wpAny _ _ (field (.ref z) 3>>=_) _ _ _;refine Am (C2 hz rfl (x:= .ref TI) rfl ?_);refine Am (Di hTI rfl ?_);show wpAny _ _ (Builtin.SmallTypes.ownedTupleIsFree (.ref z)>>=_) _ _ _;refine Am ?_;unfold Builtin.SmallTypes.ownedTupleIsFree;refine Am (C2 hz rfl (x:= .none) rfl (A8 ?_));simp only [if_true];refine Am (wpAny_rule ?_);refine Am (C2 hz rfl (x:= .ref TO) rfl ?_);refine Am (Dn hz (by simp) fun g1 hz1 s1=>?_)
 replace hz1:IsZip g1 z TI TO .ellipsis:=hz1
 refine Am ?_;simp only [List.zipIdx_cons,List.zipIdx_nil,En,List.forIn_nil];refine Am (Am (wpAny_onRaise ?_));show wpAny _ _ (Builtin.SmallTypes.nextOf (.ref i1)>>=_) _ _ _;cases hx:xs[i]? with
 | none=>
  refine Am (YC hh (h1.extBut s1.extBut D.i1z) (hl1.extBut s1.extBut D.l1z) hx fun g2 e s2 he=>?_);obtain ⟨oe,hoe,hce⟩:=he;have z2:IsZip g2 z TI TO .ellipsis:=s2 _ _ D.i1z.symm hz1;have ez:e≠z:=fun q=>by subst q;rw [z2] at hoe;cases hoe;simp at hce
  exact Dn z2 (by simp) fun g3 _ s3=>fin g3 e (fun c o c1 _ c3 _ q=>s3.extBut _ _ c1 (s2 _ _ c3 (s1.extBut _ _ c1 q))) ⟨oe,s3.extBut _ _ ez hoe,hce⟩
 | some x=>
  have hy:ys[i]?=none:=by rcases hend with h | h;rw [hx] at h;cases h;exact h
  refine Am (Vr (h1.extBut s1.extBut D.i1z) (hl1.extBut s1.extBut D.l1z) hx fun g2 k2 s2=>A8 ?_);have hTO2:IsPair g2 TO a b:=s2.extBut _ _ D.TOi1 (s1.extBut _ _ D.TOz hTO);refine Am (Di hTO2 rfl ?_);refine Am (wpAny_updateSeq_pair hTO2 fun g3 hTO3 s3=>?_);refine Am (wpAny_letGo (A8 ?_));refine Am (Am (wpAny_onRaise ?_));show wpAny _ _ (Builtin.SmallTypes.nextOf (.ref i2)>>=_) _ _ _;refine Am (YC hh (((h2.extBut s1.extBut D.i2z).extBut s2.extBut D.i12.symm).extBut s3.extBut D.TOi2.symm) (((hl2.extBut s1.extBut D.l2z).extBut s2.extBut D.l2i1).extBut s3.extBut D.l2TO) hy fun g4 e s4 he=>?_);obtain ⟨oe,hoe,hce⟩:=he;have z4:IsZip g4 z TI TO .ellipsis:=s4 _ _ D.i2z.symm (s3.extBut _ _ D.TOz.symm (s2.extBut _ _ D.i1z.symm hz1));have ez:e≠z:=fun q=>by subst q;rw [z4] at hoe;cases hoe;simp at hce
  exact Dn z4 (by simp) fun g5 _ s5=>fin g5 e (fun c o c1 c2 c3 c4 q=>s5.extBut _ _ c1 (s4 _ _ c4 (s3.extBut _ _ c2 (s2.extBut _ _ c3 (s1.extBut _ _ c1 q))))) ⟨oe,s5.extBut _ _ ez hoe,hce⟩
end
section
variable {X:Cx} {pins:List (Ac×Obj)} {σ:St} {H:Hp} {s:Ae} {h':Heap}
theorem Inv.turns {t':Nat} {ch:List Ac} (I:Inv X pins σ H s) (hf:∀ b∈ch,vn X pins H b) (k:∀ b o,b∉ch→s.heap.get? b=some o→h'.get? b=some o):Inv X pins σ H {s with heap:=h',toks:=t'}:=by
 have nit:∀ b u,H b=some u→b∉ch:=fun b u e z=>by rw [(hf b z).1] at e;cases e
 refine I.step (g':=s.gens) (d':=s.drawn) (ch:=ch) (fun b hb=>?_) (fun b o _ _ hc e _=>k b o hc e) (fun b o _ _ hc e _=>⟨o.slots,k b o hc e⟩) (fun _ _ _ _ n=>n)
  (fun b o hc e=>⟨o,k b o hc e⟩) (fun _ _ e=>e) (fun _ _ _ e=>e) (fun b ps e=>⟨#[],by rw [e];simp⟩) (fun m hm=>?_) (fun b u e=>?_) I.bare
 ·obtain ⟨_,f1,_,f3,f4,f5⟩:=hf b hb;exact ⟨f3,f1,f4,f5⟩
 ·obtain ⟨o,es,ep,ho,r⟩:=hm;exact ⟨o,es,ep,k _ o (fun z=>(hf _ z).2.1 rfl) ho,r⟩
 ·refine (I.hok b u e).stay (fun c v hc q=>k c v ?_ q) (fun _ q=>q) fun _ _ q=>q;rcases hc with z | z
  ·rw [z];exact nit b u e
  ·exact nit c _ z
end
def Itz (K:Frag) (a b:Ac):It:=
 ⟨fun i H=>∃ xs ys x y,SqT K H a xs∧SqT K H b ys∧xs[i]?=some x∧ys[i]?=some y,
  fun i H v H'=>∃ p x y,H p=none∧v= .ref p∧(∀ xs,SqT K H a xs→xs[i]?=some x)∧(∀ ys,SqT K H b ys→ys[i]?=some y)∧H'=upd H p (.tup [x,y]),
  fun i H=>∃ xs ys,SqT K H a xs∧SqT K H b ys∧(xs.length≤i∨ys.length≤i)⟩
theorem qc4 {P:Program} {w:World} {K:Frag} {elts:List Expr} {c:Nat} {pos:Pos} {z TI TO i1 i2 a b:Ac} (D:ZipApart z TI TO i1 i2 a b):
  Turn P w K (.Tuple elts c pos) (Itz K a b) [z,TI,TO,i1,i2] z (fun i h=>ZipAt z TI TO i1 i2 a b i h) where
 mem:=by simp
 obj:=fun i h st x hx=>by
  obtain ⟨hz,hTI,⟨p,q,hTO⟩,⟨o1,e1,c1,d1⟩,⟨o2,e2,c2,d2⟩⟩:=st;simp only [Ap,A2,or_false] at hx;rcases hx with rfl | rfl | rfl | rfl | rfl
  ·exact ⟨_,hz,fun v e=>by cases e⟩
  ·exact ⟨_,hTI,fun v e=>by cases e⟩
  ·exact ⟨_,hTO,fun v e=>by cases e⟩
  ·exact ⟨o1,e1,fun v e=>by rw [d1] at e;cases e⟩
  ·exact ⟨o2,e2,fun v e=>by rw [d2] at e;cases e⟩
 keep:=fun i h h' st k=>by
  obtain ⟨hz,hTI,⟨p,q,hTO⟩,h1,h2⟩:=st;exact ⟨k z (by simp) _ hz,k TI (by simp) _ hTI,⟨p,q,k TO (by simp) _ hTO⟩,h1.at fun o e=>k i1 (by simp) o e,h2.at fun o e=>k i2 (by simp) o e⟩
 item:=by
  intro X hP hw hK hc i pins s σ H E I hf st hg;subst hP hw hK;obtain ⟨xs,ys,x,y,hq1,hq2,hx,hy⟩:=hg;obtain ⟨its,rv,p,hz⟩:=I.tuple hq1;obtain ⟨jts,rw',q,hz'⟩:=I.tuple hq2;obtain ⟨u,hu,ru⟩:=rv.get hx;obtain ⟨v,hv,rr⟩:=rw'.get hy;refine qa8 D st (show s.heap.IsTuple a its.toArray from p) (show s.heap.IsTuple b jts.toArray from q) (x:=u) (y:=v) (by simpa using hu) (by simpa using hv) fun h1 z1 t1 k1 k2 pr sz kk=>?_
  refine ⟨_,rfl,wpAny_letOwnedTupleGo_zip z1 fun h2 z2 sb=>?_⟩;have kk2:∀ c o,c∉[z,TO,i1,i2]→s.heap.get? c=some o→h2.get? c=some o:=fun c o hc e=>by
   simp only [Ap,A2,or_false,not_or] at hc;exact sb.extBut _ _ hc.1 (kk c o hc.1 hc.2.1 hc.2.2.1 hc.2.2.2 e)
  have I1:Inv X pins σ H {s with heap:=h2}:=I.turns (t':=s.toks) (ch:=[z,TO,i1,i2]) (fun b hb=>hf b (by simp only [Ap,A2,or_false] at hb ⊢;rcases hb with rfl | rfl | rfl | rfl <;> simp)) kk2
  have hzlt:z<s.heap.objs.size:=A7 st.hz;have pr2:IsPair h2 s.heap.objs.size u v:=sb.extBut _ _ (Et hzlt) pr;have f:=I.fpOk (b:=s.heap.objs.size) (H':=H) (Ax _) (I.hok.fresh (Ax _));have I2:Inv X pins σ (upd H s.heap.objs.size (.tup [x,y])) {s with heap:=h2}:=I1.trackN f.1 f.2.1 (Heap.get?_none_of_le I.sz) f.2.2.2.2.1 f.2.2.2.2.2 ⟨by simp [Af],[u,v],.cons ru (.cons rr .nil),⟨_,pr2,rfl,_,rfl⟩⟩
  refine ⟨.ref s.heap.objs.size,_,I2,rfl,⟨s.heap.objs.size,x,y,f.1,rfl,fun zs hzs=>by rw [I.tuple_inj hzs hq1];exact hx,fun zs hzs=>by rw [I.tuple_inj hzs hq2];exact hy,rfl⟩,?_,fun b hb=>?_⟩
  ·exact ⟨z2,sb.extBut _ _ D.TIz (kk _ _ D.TIz D.TITO D.TIi1 D.TIi2 st.hTI),⟨u,v,sb.extBut _ _ D.TOz t1⟩,k1.extBut sb.extBut D.i1z,k2.extBut sb.extBut D.i2z⟩
  ·rw [qu (fun e=>?_)]
   ·exact (hf b hb).1
   ·have lt:b<s.heap.objs.size:=by
     obtain ⟨hz,hTI,⟨p,q,hTO⟩,⟨o1,e1,c1,d1⟩,⟨o2,e2,c2,d2⟩⟩:=st;simp only [Ap,A2,or_false] at hb;rcases hb with rfl | rfl | rfl | rfl | rfl
     ·exact A7 hz
     ·exact A7 hTI
     ·exact A7 hTO
     ·exact A7 e1
     ·exact A7 e2
    exact Bu lt e
 done:=by
  intro X hP hw hK hc i pins s σ H E I hf st hg;subst hP hw hK;obtain ⟨xs,ys,hq1,hq2,hl⟩:=hg;obtain ⟨its,rv,p,hz⟩:=I.tuple hq1;obtain ⟨jts,rw',q,hz'⟩:=I.tuple hq2;have l1:=rv.length;have l2:=rw'.length;refine qct (I.ok.hd hc) D st (show s.heap.IsTuple a its.toArray from p) (show s.heap.IsTuple b jts.toArray from q) (by simp;omega) fun h1 kk=>⟨rfl,?_⟩
  refine I.turns (t':=s.toks) (ch:=[z,TO,i1,i2]) (fun b hb=>hf b (by simp only [Ap,A2,or_false] at hb ⊢;rcases hb with rfl | rfl | rfl | rfl <;> simp)) fun c o hc e=>?_
  simp only [Ap,A2,or_false,not_or] at hc;exact kk c o hc.1 hc.2.1 hc.2.2.1 hc.2.2.2 e
 self:=fun _ _ _ _ _ st h=>wpAny_pyIter_zip st.hz h
abbrev tzA (h:Heap) (l:Ac):Heap:=h.push {cls:= .type "tuple_iterator",data:= .fields #[.ref l,.int 0 0]}
abbrev tzP (h:Heap) (u v:Ab):Heap:=h.push {cls:= .type "tuple",data:= .seq #[u,v]}
abbrev tz2 (h:Heap) (l m:Ac):Heap:=tzA (tzA h l) m
abbrev tz4 (h:Heap) (l m:Ac):Heap:=tzP (tzP (tz2 h l m) (.ref h.objs.size) (.ref (tzA h l).objs.size)) .none .none
abbrev tz5 (h:Heap) (l m:Ac):Heap:=(tz4 h l m).push {cls:= .type "zip",data:= .fields #[.none,.bool false,.bool false,.ref (tz2 h l m).objs.size,.ref (tzP (tz2 h l m) (.ref h.objs.size) (.ref (tzA h l).objs.size)).objs.size]}
theorem QF (l m:Ac) (xs ys:Array Ab):
  Meets (Builtin.«zip.__new__» ⟨[.type "zip",.ref l,.ref m],[]⟩) (fun _ R s=>s.heap.IsTuple l xs∧s.heap.IsTuple m ys∧R (.ok (.ret (.ref (tz4 s.heap l m).objs.size))) {s with heap:=tz5 s.heap l m}):=
 .of_wp fun prog w A R s h=>by
  obtain ⟨hp,g,d,tk,os⟩:=s;obtain ⟨hl,hm,h⟩:=h;have hsub:=sub_zip;have h1:Heap.IsTuple (Shared.heap ⟨hp,g,d,tk,os⟩) l xs:=hl;have h2:Heap.IsTuple (Shared.heap ⟨tzA hp l,g,d,tk,os⟩) m ys:=by
   obtain ⟨o,e,c,n,q⟩:=hm;exact ⟨o,Av _ e,c,n,q⟩
  wp_walk using Er h1,Er h2
  exact ⟨_,rfl,h⟩
section
variable {prog:Program} {w:World} {A:Around} {E:Ab→Ae→Prop} {s:Ae}
theorem qck {l m:Ac} {xs ys:Array Ab} {Q:Ab→Ae→Prop} (hl:s.heap.IsTuple l xs) (hm:s.heap.IsTuple m ys)
  (h:∀ h',ZipAt (s.heap.objs.size+4) (s.heap.objs.size+2) (s.heap.objs.size+3) s.heap.objs.size (s.heap.objs.size+1) l m 0 h'→(∀ c o,s.heap.get? c=some o→h'.get? c=some o)→Q (.ref (s.heap.objs.size+4)) {s with heap:=h'}):
  wpAny (model prog w) A (call (.type "zip") [.ref l,.ref m]) Q E s:=by
 refine callType_new F.called_zip O0 (F.typeCall_zip_2 _ _) (F.newCall_zip_2 _ _) (fun obj=>F.args_object_init_3 obj _ _) F.entry_zip_new (QF l m xs ys) ⟨hl,hm,?_⟩;have n1:(tzA s.heap l).objs.size=s.heap.objs.size+1:=Cp ..;have n2:(tz2 s.heap l m).objs.size=s.heap.objs.size+2:=by rw [Cp,n1]
 have n3:(tzP (tz2 s.heap l m) (.ref s.heap.objs.size) (.ref (tzA s.heap l).objs.size)).objs.size=s.heap.objs.size+3:=by rw [Cp,n2]
 have n4:(tz4 s.heap l m).objs.size=s.heap.objs.size+4:=by rw [Cp,n3]
 have g5:(tz5 s.heap l m).get? (tz4 s.heap l m).objs.size=some _:=Bh _ rfl;have up4:∀ c o,(tz4 s.heap l m).get? c=some o→(tz5 s.heap l m).get? c=some o:=fun c o e=>Av _ e;have up3:∀ c o,(tzP (tz2 s.heap l m) (.ref s.heap.objs.size) (.ref (tzA s.heap l).objs.size)).get? c=some o→(tz5 s.heap l m).get? c=some o:=fun c o e=>up4 c o (Av _ e);have up2:∀ c o,(tz2 s.heap l m).get? c=some o→(tz5 s.heap l m).get? c=some o:=fun c o e=>up3 c o (Av _ e);have up1:∀ c o,(tzA s.heap l).get? c=some o→(tz5 s.heap l m).get? c=some o:=fun c o e=>up2 c o (Av _ e);have g4:=up4 _ _ (Bh _ (o:={cls:= .type "tuple",data:= .seq #[.none,.none]}) rfl);have g3:=up3 _ _ (Bh _ (o:={cls:= .type "tuple",data:= .seq #[.ref s.heap.objs.size,.ref (tzA s.heap l).objs.size]}) rfl);have g2:=up2 _ _ (Bh _ (o:={cls:= .type "tuple_iterator",data:= .fields #[.ref m,.int 0 0]}) rfl);have g1:=up1 _ _ (Bh _ (o:={cls:= .type "tuple_iterator",data:= .fields #[.ref l,.int 0 0]}) rfl);show _∧_;rw [n2,n3,n4] at g5;rw [n1,n2] at g3;rw [n3] at g4;rw [n1] at g2;rw [n4];exact ⟨⟨_,g5,rfl⟩,h _ ⟨g5,g3,⟨_,_,g4⟩,⟨_,g1,rfl,rfl⟩,⟨_,g2,rfl,rfl⟩⟩ fun c o e=>up1 c o (Av _ e)⟩
end
theorem qjw:bootBuiltins "zip"=some (.type "zip"):=∅
def qhk (K:Frag) (ta:TA):TI:=fun σ H R=>ta σ H fun vs H1=>∃ a b:Ac,vs=[.ref a,.ref b]∧(∃ xs,SqT K H1 a xs)∧(∃ ys,SqT K H1 b ys)∧R (Itz K a b) H1
theorem Qq {X:Cx} {K:Frag} {elts:List Expr} {c:Nat} {tpos:Pos} {a b:Expr} {ta:TA} {p pos:Pos} (hK:X.K=K) (hm:X.mg "zip"=none) (ha:PA X [a,b] ta) (hg:Gl X "zip":=by rfl)
  (hs:starEach [a,b] X.env=[(false,eval a X.env),(false,eval b X.env)]:=by rfl) (hs2:starEach [b] X.env=[(false,eval b X.env)]:=by rfl):PI X (.Tuple elts c tpos) (.Call (.Name "zip" p) [a,b] [] pos) (qhk K ta):=by
 intro pins s σ H R I h;subst hK;refine Call_ (yd I hg hm qjw (PyProof.Rows.callWith_type1 (thn (ha pos pins s σ H _ I h) fun us s1 ⟨vs,H1,I1,r1,q1⟩=>?_) (by rw [hs,hs2]) (by rw [hs2];rfl)))
 obtain ⟨l,m,e,⟨xs,hx⟩,⟨ys,hy⟩,q⟩:=q1;subst e;cases r1 with
 | cons r rr=>
  cases rr with
  | cons r' rr=>
   cases rr;cases r;cases r';obtain ⟨its,rv,pl,hz⟩:=I1.tuple hx;obtain ⟨jts,rw',pm,hz'⟩:=I1.tuple hy;refine qck (show s1.heap.IsTuple l its.toArray from pl) (show s1.heap.IsTuple m jts.toArray from pm) fun h' Z k=>?_;have ll:l<s1.heap.objs.size:=by obtain ⟨o,e,_⟩:=pl;exact A7 e
   have lm:m<s1.heap.objs.size:=by obtain ⟨o,e,_⟩:=pm;exact A7 e
   have D:ZipApart (s1.heap.objs.size+4) (s1.heap.objs.size+2) (s1.heap.objs.size+3) s1.heap.objs.size (s1.heap.objs.size+1) l m:=by
    have na:∀ (n i j:Nat),i≠j→n+i≠n+j:=fun n i j h=>⋯;have nl:∀ (n k i:Nat),k<n→k≠n+i:=fun n k i h=>⋯;exact ⟨na _ 2 4 O0,na _ 3 4 O0,na _ 0 4 O0,na _ 1 4 O0,na _ 2 3 O0,na _ 2 0 O0,na _ 2 1 O0,na _ 3 0 O0,na _ 3 1 O0,na _ 0 1 O0,
     nl _ _ 4 ll,nl _ _ 3 ll,nl _ _ 0 ll,nl _ _ 1 ll,nl _ _ 4 lm,nl _ _ 3 lm,nl _ _ 0 lm,nl _ _ 1 lm⟩
   refine wpAny_pyIter_zip Z.hz ⟨_,_,_,_,H1,rfl,I1.kept (t':=s1.toks) k,qc4 D,Z,fun b hb=>?_,q⟩;have hb':s1.heap.objs.size≤b:=by
    simp only [Ap,A2,or_false] at hb;rcases hb with e | e | e | e | e <;> rw [e] <;> first | exact Nat.le_add_right _ _ | exact Ax _
   exact I1.fpOk hb' (I1.hok.fresh hb')
section
variable {κ:Type} [DecidableEq κ]
def vm (l:List κ) (k:κ):List κ:=if k∈l then l else l++[k]
def vD (ks:List κ):List κ:=ks.foldl vm []
theorem qbc (ks:List κ) (k:κ):vD (ks++[k])=vm (vD ks) k:=by unfold vD;rw [List.foldl_append];rfl
set_option tactic.hygienic true in
theorem VU {l:List κ} {k x:κ}:x∈vm l k↔x∈l∨x=k:=by
 unfold vm;split
 ·rename_i h;exact ⟨.inl,fun q=>q.elim id fun e=>e▸h⟩
 ·simp
theorem addU_len (l:List κ) (k:κ):(vm l k).length=if k∈l then l.length else l.length+1:=by
 unfold vm;split <;> simp
theorem yk:∀ (ks l:List κ),(ks.foldl vm l).length≤l.length+ks.length
 | [],l=>Ax _
 | k::r,l=>by
  have h:=yk r (vm l k);have e:=addU_len l k;rw [B8,Aj];split at e <;> omega
theorem Q5 (ks:List κ):(vD ks).length≤ks.length:=by have:=yk ks [];simpa [vD] using this
theorem ZO:∀ (ks l:List κ),(∃ k∈ks,k∈l)∨¬ ks.Nodup→(ks.foldl vm l).length<l.length+ks.length
 | [],l,h=>by rcases h with ⟨k,hk,_⟩ | h;cases hk;exact absurd List.nodup_nil h
 | k::r,l,h=>by
  rw [B8,Aj]
  by_cases hk:k∈l
  ·have e:(vm l k).length=l.length:=by rw [addU_len,if_pos hk]
   have:=yk r (vm l k);omega
  ·have e:(vm l k).length=l.length+1:=by rw [addU_len,if_neg hk]
   have:=ZO r (vm l k) (by
    rcases h with ⟨x,hx,hl⟩ | h
    ·rcases Ap.mp hx with rfl | hx
     ·exact absurd hl hk
     ·exact .inl ⟨x,hx,VU.mpr (.inl hl)⟩
    ·rw [Cr] at h
     by_cases hr:k∈r
     ·exact .inl ⟨k,hr,VU.mpr (.inr rfl)⟩
     ·exact .inr fun q=>h ⟨hr,q⟩)
   omega
theorem ZP:∀ (ks l:List κ),ks.Nodup→(∀ k∈ks,k∉l)→(ks.foldl vm l).length=l.length+ks.length
 | [],l,_,_=>rfl
 | k::r,l,h,hd=>by
  rw [B8,Aj];have hk:k∉l:=hd k Au;have e:(vm l k).length=l.length+1:=by rw [addU_len,if_neg hk]
  rw [Cr] at h;have:=ZP r (vm l k) h.2 fun x hx q=>(VU.mp q).elim (hd x (Ao _ hx)) fun e=>h.1 (e▸hx);omega
theorem qc1 (ks:List κ):((vD ks).length=ks.length)↔ks.Nodup:=by
 constructor
 ·intro h
  by_cases q:ks.Nodup
  ·exact q
  ·have:=ZO ks [] (.inr q);unfold vD at h;simp at this;omega
 ·intro h;have:=ZP ks [] h fun _ _ q=>nomatch q;simpa [vD] using this
end
section
variable {prog:Program} {w:World} {κ:Type} [DecidableEq κ] {knd:PySem.KeyKind prog w κ} {A:Around}
abbrev vV (knd:PySem.KeyKind prog w κ) (h:Heap) (a:Ac) (ks:List κ):Prop:=h.SetOf knd a (fun k=>decide (k∈vD ks)) (vD ks).length
theorem vV.at' {h h':Heap} {a:Ac} {ks:List κ} (q:vV knd h a ks) (k:∀ o,h.get? a=some o→h'.get? a=some o):vV knd h' a ks:=by
 obtain ⟨o,es,ep,t,ho,r⟩:=q;exact ⟨o,es,ep,t,k o ho,r⟩
theorem qdn {R:Result→Ae→Prop} {it D:Ac} {fp wr:List Ac} {G:Array GenState→Array GenState→Prop} {ks:List κ} {P:Nat→Ab→Prop} {St:Nat→Ae→Prop}
  (W:WalksS prog w A.in1 it fp wr G ks.length P St) (hD:D∉fp) (hP:∀ i v,P i v→∃ k,ks[i]?=some k∧knd.is k v=true∧v.scannable=true) (hb:ks.length+1<scanBound):
  ∀ (m i:Nat) (s:Ae),ks.length - i=m→i≤ks.length→St i s→vV knd s.heap D (ks.take i)→
   (∀ s',Moved (D::wr) G s s'→vV knd s'.heap D ks→R (.ok (.ret .none)) s')→codeAny (model prog w) A (.builtin "set.update.loop" ⟨[.ref D,.ref it],[]⟩) R s:=by
 have hDw:D∉wr:=fun q=>hD (W.sub _ q);have hin:∀ b∈wr,b∈D::wr:=fun b q=>Ao _ q;intro m
 induction m with
 | zero=>
  intro i s hm hi st hS hR;have e:i=ks.length:=⋯;subst e;rw [Cb] at hS;refine codeAny_builtin PyProof.Rows.F.entry_set_update_loop ?_;rw [Around.under_plainId Dl _];show wpAny (model prog w) A.in1 (pyNext (.ref it)>>=_) _ _ s;exact Am (W.done s _ _ st fun s' mv=>A8 (hR s' (mv.mono hin) (hS.at' fun o q=>mv.heap D o hDw q)))
 | succ m ih=>
  intro i s hm hi st hS hR;have lt:i<ks.length:=⋯;refine codeAny_builtin PyProof.Rows.F.entry_set_update_loop ?_;rw [Around.under_plainId Dl _];show wpAny (model prog w) A.in1 (pyNext (.ref it)>>=_) _ _ s;refine Am (W.item i s _ _ lt st fun v s1 pv st1 mv=>?_);obtain ⟨k,hk,hkv,hsc⟩:=hP i v pv;have hS1:vV knd s1.heap D (ks.take i):=hS.at' fun o q=>mv.heap D o hDw q;show wpAny (model prog w) A.in1 (holding [v] (setAdd D v)>>=_) _ _ s1;refine Am (Ek ?_);unfold setAdd;refine Ek (Am (knd.pyHash hkv ?_));have few:(vD (ks.take i)).length+1<scanBound:=by
   have h1:=Q5 (ks.take i);rw [B4] at h1;omega
  refine wpAny_setAddHashed_of (knd:=knd) (s:={s1 with toks:=s1.toks+1}) hkv hsc hS1 few fun h2 sb hS2=>?_
  have hS3:vV knd h2 D (ks.take (i+1)):=by
   have e:ks.take (i+1)=ks.take i++[k]:=by rw [Bw,hk];rfl
   unfold vV;rw [e,qbc];refine SetOf_congr hS2 (fun x=>?_) ?_
   ·rw [B5,Bt,Bk,Bk,Bk,VU]
   ·rw [addU_len]
    by_cases q:k∈vD (ks.take i) <;> simp [q]
  refine A8 ⟨plainId_quiet Dl _,ih (i+1) _ ⋯ lt (W.frame _ s1 _ _ st1 (Ex _) fun b q o e=>?_) hS3 fun s3 mv3 hS4=>?_⟩
  ·rw [sb.2 b fun z=>hD (z▸q)];exact e
  ·refine hR s3 (Moved.trans W.gtrans ((mv.mono hin).then_heap (Ex _) fun b o q e=>?_) mv3) hS4;rw [sb.2 b fun z=>q (z▸Au)];exact e
end
section
variable {prog:Program} {w:World} {κ:Type} [DecidableEq κ] {knd:PySem.KeyKind prog w κ} {A:Around} {E:Ab→Ae→Prop} {s:Ae}
abbrev J7 (led:Bool):Obj:={cls:= .type "set",dict:=none,data:= .set #[] 0 (.fresh 0 0 led)}
theorem qcl {t:Ac} {items:Array Ab} {ks:List κ} {Q:Ab→Ae→Prop} (nh:A.handled=none) (ht:s.heap.IsTuple t items) (hlen:items.size=ks.length)
  (hk:∀ (i:Nat) (v:Ab),items[i]?=some v→∃ k,ks[i]?=some k∧knd.is k v=true∧v.scannable=true) (few:ks.length+1<scanBound)
  (h:∀ (h':Heap) (tk:Nat),vV knd h' s.heap.objs.size ks→(∀ b o,s.heap.get? b=some o→h'.get? b=some o)→Q (.ref s.heap.objs.size) {s with heap:=h',toks:=tk}):
  wpAny (model prog w) A (call (.type "set") [.ref t]) Q E s:=by
 obtain ⟨c1,c2,mro⟩:=F.called_set.mro;have made:=F.called_set.made;have sub:=F.called_set.sub;refine wpAny_call (codeAny_of_tree ?_);show wpAny (model prog w) _ (callAny (.type "set") _) _ _ _;refine A8 ⟨Code.quiet_builtin _ ∅,codeAny_builtin F.entry_type_call ?_⟩;rw [Around.under_plain (weight_type_call_type "set" [.ref t] []) rfl];have n1:=F.called_set.notType;have n2:=F.called_set.canCreate;have n3:=F.typeCall_set_1 (.ref t)
 repeat (any_goals (first | assumption | wp_step))
 refine Ep (code_set_new_1 (.ref t) (E:=E) (Q₁:=fun ob s1=>∃ led:Bool,ob= .ref s.heap.objs.size∧s1={s with heap:=s.heap.push (J7 led)}) fun led=>⟨led,rfl,rfl⟩) fun r s1 q=>?_
 cases r with
 | error e=>exact q
 | ok f1=>
  cases f1 with
  | ret ob=>
   obtain ⟨led,rfl,rfl⟩:=q;have new:(s.heap.push (J7 led)).get? s.heap.objs.size=some (J7 led):=Bh _ rfl;have hty:Shared.TypeIs {s with heap:=s.heap.push (J7 led)} (.ref s.heap.objs.size) "set":=⟨_,new,rfl⟩
   have i1:=F.called_set.init.lookup;have i2:=F.called_set.init.bind (.ref s.heap.objs.size)
   repeat (any_goals (first | assumption | wp_step))
   refine Ep (codeAny_call_builtin (R:=wants (fun r s2=>r= .none∧∃ h' tk,s2={s with heap:=h',toks:=tk}∧vV knd h' s.heap.objs.size ks∧∀ b o,s.heap.get? b=some o→h'.get? b=some o) E)
    F.called_set.init.plain F.entry_set_init (check_set_init_1 hty ?_)) fun r2 s2 q2=>?_
   ·obtain ⟨⟨oc,od,odt,osl⟩,ho,hc,n,hd⟩:=ht;simp only at hc hd;subst hc;subst hd;have ho1:(s.heap.push (J7 led)).get? t=some {cls:= .type "tuple",dict:=od,data:= .seq items n,slots:=osl}:=Av _ ho;have j1:=F.sub_tuple_set;have j2:=F.sub_tuple_frozenset;have j3:(Value.type "tuple"==Value.type "dict")=false:=O0;have ht1:(s.heap.push (J7 led)).IsTuple t items:=⟨_,ho1,rfl,n,rfl⟩;unfold Builtin.«set.__init__» noKeywords Builtin.Frozenset.updateFrom;generalize hPI:pyIter=PI
    wp_walk
    subst hPI;refine Er ht1 (Am (wpAny_runValue ?_));have lt:t<s.heap.objs.size:=A7 ho;have nh3:A.in1.in1.in1.handled=none:=by simp [nh]
    have zs:(s.heap.push (J7 led)).objs.size=s.heap.objs.size+1:=Cp ..;have ne1:t≠(s.heap.push (J7 led)).objs.size:=by rw [zs];exact Bu (Nat.lt_succ_of_lt lt)
    have out:s.heap.objs.size∉[(s.heap.push (J7 led)).objs.size,t]:=by
     rw [zs,Ap,A0,not_or];exact ⟨Bu (Eg _),Et lt⟩
    have Wk:=(Walks.tuple (prog:=prog) (w:=w) nh3 _ t ne1 items).toS;rw [hlen] at Wk;refine qdn (knd:=knd) (ks:=ks) Wk out hk few (ks.length - 0) 0 _ rfl (Bm _) ⟨⟨_,Bh _ rfl,rfl,rfl⟩,?tup⟩ ?start ?fin
    case tup=>
     exact ⟨_,Av _ ho1,rfl,n,rfl⟩
    case start=>
     exact SetOf_congr ((setObjOf_fresh (knd:=knd) led).setOf (Av _ new) (by unfold scanBound;omega)) (fun _=>rfl) rfl
    case fin=>
     intro s' mv hS;obtain ⟨h',g',d',tk',os'⟩:=s';have e1:g'=s.gens:=mv.gens;have e2:d'=s.drawn:=mv.drawn;have e3:os'=s.os:=mv.os;subst e1;subst e2;subst e3;refine A8 (A8 ⟨rfl,h',tk',rfl,hS,fun b o e=>?_⟩);have lb:=A7 e;refine mv.heap b o ?_ (Av _ (Av _ e));rw [Ap,A0,not_or,zs];exact ⟨Bu lb,Bu (Nat.lt_succ_of_lt lb)⟩
   ·cases r2 with
    | error e=>exact q2
    | ok f2=>
     cases f2 with
     | ret r=>
      obtain ⟨rfl,h',tk,rfl,hS,kk⟩:=q2
      repeat (any_goals (first | assumption | wp_step))
      exact h _ _ hS kk
     | _=>exact q2.elim
  | _=>exact q.elim
end
def qgj (P:Program) (w:World) (a:Ac) (ks:List Str):HO:= .ext fun h=>vV (zb P w) h a (ks.map fun k=>(Sum.inr k:Key))
section
variable {X:Cx}
theorem qcm {K:Frag} (hK:X.K=K) (hc:X.calm=true):Je X (.type "set") (fun xs H Q=>∃ (a:Ac) (ks:List Str),xs=[.ref a]∧SqT K H a (ks.map V.str)∧ks.length≤100∧∀ p,H p=none→Q (.ref p) (upd H p (qgj X.prog X.w p ks))):=by
 intro pins s σ H xs us Q I r h;subst hK;obtain ⟨a,ks,rfl,hq,hl,q⟩:=h;obtain ⟨u,rfl,ru⟩:=JE r;cases ru;obtain ⟨its,rv,p,hz⟩:=I.tuple hq;have e:=rv.length;rw [Ah] at e;refine qcl (knd:=zb X.prog X.w) (ks:=ks.map fun k=>(Sum.inr k:Key)) (I.ok.hd hc) (show s.heap.IsTuple a its.toArray from p) (by simp [e]) (fun i v hv=>?_) (by simp [scanBound];omega) fun h' tk hS kk=>?_
 ·have hv':its[i]?=some v:=by simpa using hv
  cases hx:ks[i]? with
  | none=>
   have:its[i]?=none:=rv.none_of (by rw [Bq,hx];rfl)
   rw [this] at hv';cases hv'
  | some x=>
   obtain ⟨v',e1,r1⟩:=rv.get (i:=i) (x:= .str x) (by rw [Bq,hx];rfl)
   rw [hv'] at e1;cases e1;obtain ⟨t,rfl⟩:=r1;exact ⟨Sum.inr x,by rw [Bq,hx];rfl,wJ _ _ _ _,rfl⟩
 ·have fr:H s.heap.objs.size=none:=I.hok.fresh (Ax _);refine ⟨.ref s.heap.objs.size,_,I.laid (o:=qgj X.prog X.w s.heap.objs.size ks) (t':=tk) kk (Ax _) ⟨hS,?_,fun h1 h2 q1 k=>q1.at' k⟩,rfl,q _ fr⟩;obtain ⟨o,_,_,_,ho,_⟩:=hS;exact ⟨o,ho⟩
theorem qcn:Je X (.builtin "len") (fun xs H Q=>∃ (a:Ac) (ks:List Str),xs=[.ref a]∧H a=some (qgj X.prog X.w a ks)∧ks.length≤100∧Q (.int ((vD ks).length:Nat)) H):=by
 intro pins s σ H xs us Q I r h;obtain ⟨a,ks,rfl,ha,hl,q⟩:=h;obtain ⟨u,rfl,ru⟩:=JE r;cases ru;obtain ⟨⟨o,es,ep,t,ho,hex,hd,_,_,hb,hf,hn⟩,_⟩:=I.hok a _ ha;have inj:∀ ks:List Str,(vD (ks.map fun k=>(Sum.inr k:Key))).length=(vD ks).length:=fun ks=>by
  have gen:∀ (ks l:List Str),((ks.map fun k=>(Sum.inr k:Key)).foldl vm (l.map fun k=>(Sum.inr k:Key)))=(ks.foldl vm l).map fun k=>(Sum.inr k:Key):=by
   intro ks
   induction ks with
   | nil=>intro l;rfl
   | cons k r ih=>
    intro l;rw [As,B8,B8,← ih]
    congr 1
    unfold vm
    by_cases h:k∈l <;> simp [h]
  have g:=gen ks [];unfold vD;rw [Cd] at g;rw [g,Ah]
 rw [inj] at hn;have hle:=Q5 ks;refine call_len_set ho hex hd hf ⋯ ⟨.int es.size,H,I.tok _,⟨_,rfl⟩,?_⟩;rw [hn];exact q
end
section
variable {X:Cx} {K:Frag} {x:Str} {pos:Pos}
theorem pt_k {a:Expr} {ta:TE} (hK:X.K=K) (ha:PE X a ta) (he:∀ whole,isTrue a X.env whole=(do let v ← whole;standAt a.pos;holding [v] (truthy v)):=by intro _;rfl):
  PT X a (fun σ H Q=>ta σ H fun x H'=>∃ k,qhw K x H' k∧Q k H'):=hK▸qd0 ha he
def tGT (K:Frag) (l:List Str):TE:=fun _ H Q=>∀ a,(∀ H:Hp,SqT K H a (l.map V.str))→Q (.ref a) H
theorem VM {l:List Str} (h:∃ a,X.mg x=some (.ref a)∧∀ H:Hp,SqT K H a (l.map V.str)) (hg:Gl X x:=by rfl) (hd:(x==("__debug__":Str))=false:=by decide):PE X (.Name x pos) (tGT K l):=by
 obtain ⟨a,m,q⟩:=h;intro pins s σ H Q I h;exact qah (v:= .ref a) hg m rfl hd pins s σ H Q I (h a q)
def tyD:Aa→String
 | .none=>"NoneType"
 | .bool _=>"bool"
 | .int _=>"int"
 | .str _=>"str"
 | .list _=>"list"
 | .tuple _=>"tuple"
 | .dict _=>"dict"
theorem vi (hK:X.K=K):Je X (.builtin "isinstance") (fun xs H Q=>∃ x d T,xs=[x,.ty T]∧Rep K H x d∧T∈["bool","int","str","list","tuple"]∧Q (.bl (isi (tyD d) T)) H):=by
 intro pins s σ H xs us Q I r h;subst hK;obtain ⟨x,d,T,rfl,hr,hT,q⟩:=h;obtain ⟨u,w',rfl,ru,rw'⟩:=qh1 r;cases (show w'=Value.type T from rw');have fin:∀ tk b,b=isi (tyD d) T→EP X pins σ Q (.bool b) {s with toks:=tk}:=fun tk b e=>⟨.bl _,H,I.tok tk,rfl,e▸q⟩
 cases hr with
 | non=>exact v6 I ru .non (v5 O0 hT) fun tk=>fin tk _ rfl
 | bl b=>exact v6 I ru (.bl b) (v5 O0 hT) fun tk=>fin tk _ rfl
 | int i=>exact v6 I ru (.int i) (v5 O0 hT) fun tk=>fin tk _ rfl
 | str y=>exact v6 I ru (.str y) (v5 O0 hT) fun tk=>fin tk _ rfl
 | @lst a xs ds hq _=>
  cases (show u=Value.ref a from ru);obtain ⟨its,_,⟨o,n,e,hc,_⟩,_⟩:=I.list hq;exact Cj PySem.W.kitx_list I.kIn ⟨o,e,hc⟩ (v5 (t:="list") O0 hT) (fun z=>nomatch z) fun tk=>fin tk _ rfl
 | @tup a xs ds hq _=>
  cases (show u=Value.ref a from ru);obtain ⟨its,_,⟨o,e,hc,_⟩,_⟩:=I.tuple hq;exact Cj PySem.W.kitx_tuple I.kIn ⟨o,e,hc⟩ (v5 (t:="tuple") O0 hT) (fun z=>nomatch z) fun tk=>fin tk _ rfl
end
structure Stay (st:Ac) (H H':Hp):Prop where
 at0:∃ kvs,H st=some (.dK kvs)
 at1:∃ kvs,H' st=some (.dK kvs)
 rest:∀ b o,b≠st→H b=some o→H' b=some o
section
variable {K:Frag} {st:Ac} {H H' H2:Hp}
theorem Stay.of {kvs:List (Key×V)} (h:H st=some (.dK kvs)) (g:qy H H'):Stay st H H':=⟨⟨kvs,h⟩,⟨kvs,g _ _ h⟩,fun b o _ e=>g b o e⟩
theorem Stay.put {kvs ks:List (Key×V)} (h:H st=some (.dK kvs)):Stay st H (upd H st (.dK ks)):=⟨⟨kvs,h⟩,⟨ks,upd_same⟩,fun b o n e=>by rw [qu n];exact e⟩
theorem Stay.trans (a:Stay st H H') (b:Stay st H' H2):Stay st H H2:=⟨a.at0,b.at1,fun c o n e=>b.rest c o n (a.rest c o n e)⟩
theorem Stay.then (a:Stay st H H') (g:qy H' H2):Stay st H H2:=⟨a.at0,let ⟨k,e⟩:=a.at1;⟨k,g _ _ e⟩,fun c o n e=>g c o (a.rest c o n e)⟩
theorem Stay.ne (a:Stay st H H') {b:Ac} {o:HO} (e:H b=some o) (hd:∀ kvs,o≠ .dK kvs):b≠st:=fun z=>by
 obtain ⟨k,q⟩:=a.at0;rw [z,q] at e;exact hd k (Bb e).symm
theorem Stay.rd (a:Stay st H H') {b:Ac} {o:HO} (hd:∀ kvs,o≠ .dK kvs) (h:Rd H b o):Rd H' b o:=by
 rcases h with h | ⟨ob,h⟩
 ·exact .inl (a.rest _ _ (a.ne h hd) h)
 ·exact .inr ⟨ob,a.rest _ _ (a.ne h (fun kvs z=>by cases z)) h⟩
theorem Stay.sqL (a:Stay st H H') {b:Ac} {xs:List V} (h:SqL K H b xs):SqL K H' b xs:=by
 rcases h with h | h
 ·exact .inl (a.rd (fun kvs z=>by cases z) h)
 ·exact .inr h
theorem Stay.sqT (a:Stay st H H') {b:Ac} {xs:List V} (h:SqT K H b xs):SqT K H' b xs:=by
 rcases h with h | h
 ·exact .inl (a.rd (fun kvs z=>by cases z) h)
 ·exact .inr h
theorem Rep.stay (a:Stay st H H') {x:V} {d:Aa} (h:Rep K H x d):Rep K H' x d:=h.mono a.sqL a.sqT
theorem Reps.stay (a:Stay st H H') {xs:List V} {ds:List Aa} (h:Reps K H xs ds):Reps K H' xs ds:=h.mono a.sqL a.sqT
end
section
variable {P:Program} {w:World} {K:Frag} {mg:Str→Option Ab} {base:Heap}
end
section
variable {X:Cx} {sc scope:Scope} {NX N:List Str} {js:List (Option Nat)} {tg iter elt:Expr} {ifs:List Expr} {wi:TI} {g:TG} {tt:TT} {te:TE} {pos:Pos}
theorem qgw {i:Nat} {y:Str} {py spos:Pos} (hN:X.N.Nodup) (hy:X.N[i]?=some y) (hL:Loc X.env.scope y) (hi:PI X tg iter wi) (hg:∀ cl C fp s H,PG (cxC X scope cl C N fp s H) tg g) (ht:∀ cl C fp s H,PF (cxC X scope cl C N fp s H) ifs tt)
  (he:∀ cl C fp s H,PE (cxC X scope cl C N fp s H) elt te) (own:Q0 js g) (ok:CompScope sc scope NX N js) (hsc:X.env.scope=sc:=by rfl) (hNX:X.N=NX:=by rfl) (hc:X.calm=true:=by rfl) (hs:∀ x,foldedSetIterable iter X.env x=pure x:=by intro _;rfl)
  (hsw:swapsWith (.ListComp elt [⟨tg,iter,ifs,0⟩] scope pos) (some (.Name y py)) spos.line X.env=pure true:=by rfl) (hf:X.fn y=true∨X.env.scope.names.lookup y=some .local:=by first | exact .inl rfl | exact .inr rfl | assumption):
  PS X (.Assign [.Name y py] (.ListComp elt [⟨tg,iter,ifs,0⟩] scope pos) spos) (zF (wB wi js g tt te) (qE i)):=by
 intro pins s σ H D I h;rw [exec_Assign_Name_used _ _ _ _ hsw];refine Am (wpAny_standAt (Am ?_));show wpAny _ X.A (do let _ ← comprehension (.ListComp elt [⟨tg,iter,ifs,0⟩] scope pos) scope X.env _ (newList []) false (eval iter X.env) (some (assign (.Name y py) X.env))) _ _ s
 obtain ⟨cl,hclos,cl1,cl2⟩:=Vs (scope:=scope) (env:=X.env) fun z hz hf=>I.ok.has z.1 (by
  have q:=ok.free z hz hf;rw [← hsc] at q;exact q)
 refine Am (C9 (wpAny_comprehension_free (use:=some (assign (.Name y py) X.env)) (Q:=fun _ s'=>SP X pins D .next s') rfl hs hclos ok.kind ok.names
  (thn (hi pins s σ H _ I h) fun xv s1 h1=>thn h1 fun itv s2 h2=>?_)) (fun _ s' hq=>A8 (A8 hq)) fun _ _ e=>e)
 obtain ⟨it,fp,tn,J,H2,rfl,I2,T,st2,f2,W,⟨m0,w0⟩,turn⟩:=h2;refine YU (Q:=fun x H1=>qE i x σ H1 D.nx) (RR:=fun acc C=>compPost (model X.prog X.w) X.A X.xe (some (assign (.Name y py) X.env)) (fun _ s'=>SP X pins D .next s') acc C) hsc hNX ok hc I2 cl1 cl2 T st2 f2 (fun C=>hg cl C fp s2 H2) (fun C=>ht cl C fp s2 H2) (fun C=>he cl C fp s2 H2) own w0 turn fun L C m s' Hf I' hn f q=>?_
 obtain ⟨g0,g1,g2,g3,g4,g5⟩:=f;show wpAny _ X.A (assign (.Name y py) X.env (.ref L)) _ _ _;refine wpAny_assign_Name (Yt I' hN hy hL (show qL (.ref L) (.ref L) from rfl) (fun s3 I3 hb=>?_) hf);obtain ⟨a,sb,ha⟩:=hb;have hCa:C≠a:=by
  rcases ha with rfl | ha
  ·exact g1
  ·exact fun z=>g4 _ _ ha z.symm
 exact ⟨m,hn.sameBut sb hCa,fun h' hs'=>⟨_,Hf,I3.turned (t':=s3.toks) (fun b o hb e=>(hs'.2 b hb).trans e) g0 g1 g3 g4 g5,q⟩⟩
end
section
variable {X:Cx} {K:Frag}
end
structure MethN (P:Program) (w:World) (K:Frag) (mg:Str→Option Ab) (base:Heap) (C:Ac) (k:Nat) (m:Str) (ps:List Str) (sp:Sp):Prop where
 ex:∃ (f:Ac) (fd:FuncData),FnOk P w K mg base CX0 k f fd ps sp∧Jf K fd ps []∧Meth K C m f
 cl:Cls K C
section
variable {X:Cx} {C:Ac} {k:Nat} {m x:Str} {ps:List Str} {sp:Sp} {E:XK} {o e:Expr} {es:List Expr} {ta:TE} {t:TA} {p pos apos:Pos} {pl:Sem Bool}
theorem Qs (he:PE X o ta) (D:MethN X.prog X.w X.K X.mg X.base C k m ps sp) (hr:Room k X.A)
  (ht:eval (.Call (.Attribute o m apos) [] [] pos) X.env=(do let ov ← eval o X.env;standAt apos.atName;let (f,first) ← holding [ov] (getMethod ov m pl);callWith pos f first (backTo pos (starEach [] X.env)) (backToKw pos (keywordEach [] X.env))):=by rfl):
  PE X (.Call (.Attribute o m apos) [] [] pos) (Q7 C m sp [] E0 ta qx):=by
 obtain ⟨f,fd,F,B,M⟩:=D.ex;exact qea he D.cl M F hr B .nil qee ht
end
section
variable {P:Program} {w:World} {K:Frag} {mg:Str→Option Ab} {base:Heap}
end
end L2
namespace L2
open PySem
section
variable {M:Model} {A:Around} {E:Ab→Ae→Prop} {s:Ae} {e:Ac} {d:Option Ac}
end
section
variable {prog:Program} {w:World} {A:Around} {E:Ab→Ae→Prop} {h:Heap} {g:Array GenState} {d:Drawn} {t:Nat} {os:OsState}
variable {nm q:Str} {C N:Ac} {bs bm bmB:List Ab} {hdct:Bool} {sn:List Str} {sub:List Ab} {ab:Bool} {col:Option Bool} {dd:Option Ac} {k0 k1 k2 k3 k5:Option Ab} {B newId initId:String}
end
section
variable {prog:Program} {w:World} {A:Around} {E:Ab→Ae→Prop} {s:Ae} {env:Env}
variable {nm q:Str} {C N:Ac} {bs bm bmB:List Ab} {hdct:Bool} {sn:List Str} {sub:List Ab} {ab:Bool} {col:Option Bool} {dd:Option Ac} {k0 k1 k2 k3 k5:Option Ab} {B newId initId:String}
end
end L2
namespace L2
open PySem PySem.Spec PyProof.Rows
section
variable {P:Program} {w:World} {K:Frag} {mg:Str→Option Ab} {base:Heap} {N:List Str} {qual:Str} {scope:Scope} {f:Ac} {cd:Ab} {A:Around} {outer:List Env} {s₀:Ae} {H₀:Hp} {E:XK}
end
section
variable {X:Cx} {pins:List (Ac×Obj)}
end
section
variable {prog:Program} {w:World} {A:Around} {E:Ab→Ae→Prop} {h:Heap} {g:Array GenState} {d:Drawn} {t:Nat} {os:OsState}
variable {nm q:Str} {C N:Ac} {bs bm bmB:List Ab} {hdct:Bool} {sn:List Str} {sub:List Ab} {ab:Bool} {col:Option Bool} {dd:Option Ac} {k0 k1 k2 k3 k5:Option Ab} {B newId initId:String}
end
section
variable {prog:Program} {w:World} {A:Around} {E:Ab→Ae→Prop} {s:Ae} {K:Frag} {C L x:Ac} {name:Str}
end
section
variable {prog:Program} {w:World} {A:Around} {E:Ab→Ae→Prop} {s:Ae} {K:Frag} {C x dx:Ac} {name:Str} {mA:Str→Option Ab}
end
section
variable {X:Cx} {CL C fI:Ac} {o e value:Expr} {es:List Expr} {f:Str} {t:TA} {ta tv te:TE} {apos pos pos' p1 p2 p3:Pos} {pl:Sem Bool}
end
section
variable {P:Program} {w:World} {K:Frag} {mg:Str→Option Ab} {base:Heap} {N:List Str} {qual:Str} {scope:Scope} {f:Ac} {cd:Ab} {A:Around} {outer:List Env} {s₀:Ae} {H₀:Hp} {E:XK}
end
section
variable {prog:Program} {w:World} {A:Around} {E:Ab→Ae→Prop} {s:Ae}
variable {T:String} {r d:Ac} {n:Nat} {P:Nat→Ab→Prop} {St:Nat→Heap→Prop}
end
section
variable {X:Cx} {K:Frag} {a:Expr} {ta:TA} {p1 p2 pos1 pos2:Pos}
end
structure MakeA (P:Program) (w:World) (K:Frag) (mg:Str→Option Ab) (base:Heap) (x:Str) (C:Ac) (k:Nat) (ps:List Str) (sp:Sp):Prop where
 ex:∃ (f:Ac) (fd:FuncData),FnOk P w K mg base CX0 k f fd ps sp∧Jf K fd ps []∧Mk K C f
 mC:mg x=some (.ref C)
theorem qd9 {X:Cx} {x:Str} {C:Ac} {k:Nat} {ps:List Str} {sp:Sp} {e:Expr} {es:List Expr} {t:TA} {p pos:Pos} (D:MakeA X.prog X.w X.K X.mg X.base x C k ps sp) (hr:Room (k+1) X.A) (ha:PA X (e::es) t) (hg:Gl X x:=by rfl) (hdb:(x==("__debug__":Str))=false:=by decide)
  (he:starEach (e::es) X.env=(false,eval e X.env)::starEach es X.env:=by rfl) (hpl:(backTo pos (starEach es X.env)).any (·.1)=false:=by rfl):PE X (.Call (.Name x p) (e::es) [] pos) (Q8 C sp [] E0 t):=by
 obtain ⟨f,fd,F,B,M⟩:=D.ex;exact qgy M F hr hg D.mC B .nil qee ha hdb he hpl
section
variable {X:Cx} {K:Frag}
end
section
variable {K:Frag} {H:Hp} {a b:Ac} {xs zs:List V} {i:Int} {v:V} {Q:VK}
theorem arg1 {t:TE} {σ:St} {R:List V→Hp→Prop} (h:t σ H fun v H1=>R [v] H1):qe t qx σ H R:=h
theorem ixL (h:SqL K H a xs) (e:atI xs i=some v) (q:Q v H):rIx K (.ref a) (.int i) H Q:= .inl ⟨a,xs,i,v,rfl,rfl,h,e,q⟩
theorem inS {neg:Bool} {x:V} (h:SqL K H a xs∨SqT K H a xs) (f:vS x=true) (g:xs.all vS=true) (q:Q (.bl (if neg then !inV x xs else inV x xs)) H):rIn K neg x (.ref a) H Q:=⟨a,xs,rfl,h,f,g,q⟩
end
section
variable {X:Cx} {x:Str} {e a b o:Expr} {es:List Expr} {te ta tb to:TE} {t:TA} {p pos pos' apos cpos:Pos}
theorem pst (i:Nat) (hN:X.N.Nodup) (he:PE X e te) (hi:X.N[i]?=some x:=by rfl) (hx:Loc X.env.scope x:=by first | exact Or.inl rfl | exact Or.inr rfl) (hs:swapsWith e (some (.Name x pos')) pos.line X.env=pure false:=by rfl)
  (hf:X.fn x=true∨X.env.scope.names.lookup x=some .local:=by first | exact .inl rfl | exact .inr rfl | assumption):PS X (.Assign [.Name x pos'] e pos) (zF te (qE i)):=qiz hN hi hx he hs hf
theorem pgn (i:Nat) (hN:X.N.Nodup) (hi:X.N[i]?=some x:=by rfl) (hx:Loc X.env.scope x:=by first | exact Or.inl rfl | exact Or.inr rfl) (hf:X.fn x=true∨X.env.scope.names.lookup x=some .local:=by first | exact .inl rfl | exact .inr rfl | assumption):PG X (.Name x pos) (qE i):=zy hN hi hx hf
theorem pix (K:Frag) (ha:PE X a ta) (hb:PE X b tb) (hK:X.K=K:=by rfl) (hs:qa5 b:=by intro _ _;rfl):PE X (.Subscript a b pos) (tOp (rIx K) ta tb):=qkv (ix_k hK) ha hb hs
theorem pdf {k:Nat} {ps:List Str} {sp:Sp} (D:Def X.prog X.w X.K X.mg X.base k x ps sp) (ha:PA X (e::es) t) (hr:Room k X.A:=by first | assumption | exact Room.mono (by assumption) (by first | decide | omega)) (hg:Gl X x:=by rfl)
  (hdb:(x==("__debug__":Str))=false:=by decide) (he:starEach (e::es) X.env=(false,eval e X.env)::starEach es X.env:=by rfl) (hpl:(backTo pos (starEach es X.env)).any (·.1)=false:=by rfl):PE X (.Call (.Name x p) (e::es) [] pos) (qI sp [] E0 t):=qeb D hr ha hg hdb he hpl
end
def FA (K:Frag) (f:Ac) (x q:Str) (st:Stmt):Prop:=∃ (od:Option Ac) (kV dc pm:Ab) (an:Option Ac) (cd ct:Ab) (sl:Array (Option Ab)),K.lookup f=some ⟨.type "function",od,.func (PySem.W.fnOf x q (j8 st) (jh st) (qj st) .none kV dc pm an cd ct),sl⟩∧PySem.W.codeIn K cd q=true∧PySem.W.keepIn K (.ref f)=true
theorem FA.fn {K:Frag} {f:Ac} {x q:Str} {st:Stmt} (h:FA K f x q st):∃ fd,Fun K x q st f fd∧PySem.W.keepIn K (.ref f)=true:=by
 obtain ⟨_,_,_,_,_,_,_,_,l,c,k⟩:=h;exact ⟨_,qe5 l c k,k⟩
section
variable {K:Frag} {H:Hp} {v:V} {G:Prop} {s:Str} {d d1 d2 d3 d4 d5:Aa} {ds:List Aa} {ys:List V}
theorem Rep.strI (h:Rep K H v (.str s)):v= .str s:=by
 cases h;rfl
theorem Reps.nilI (h:Reps K H ys []):ys=[]:=by
 cases h;rfl
theorem Reps.ct (h:Reps K H ys (d::ds)) (k:∀ y ys',ys=y::ys'→Rep K H y d→Reps K H ys' ds→G):G:=by
 cases h with
 | cons h t=>exact k _ _ rfl h t
theorem Rep.tpl (h:Rep K H v (.tuple ds)) (k:∀ a ys,v= .ref a→SqT K H a ys→Reps K H ys ds→G):G:=by
 cases h with
 | tup h t=>exact k _ _ rfl h t
theorem Rep.tp1 (h:Rep K H v (.tuple (.str s::ds))) (k:∀ a ys,v= .ref a→SqT K H a (.str s::ys)→Reps K H ys ds→G):G:=h.tpl fun a _ e q z=>z.ct fun _ ys e1 r0 z1=>by
 cases r0.strI;cases e1;exact k a ys e q z1
theorem Rep.tp2 (h:Rep K H v (.tuple [.str s,d1])) (k:∀ a y1,v= .ref a→SqT K H a [.str s,y1]→Rep K H y1 d1→G):G:=h.tp1 fun a _ e q z=>z.ct fun y ys e1 r1 z1=>by
 cases z1.nilI;cases e1;exact k a y e q r1
theorem Rep.tp3 (h:Rep K H v (.tuple [.str s,d1,d2])) (k:∀ a y1 y2,v= .ref a→SqT K H a [.str s,y1,y2]→Rep K H y1 d1→Rep K H y2 d2→G):G:=h.tp1 fun a _ e q z=>z.ct fun y1 _ e1 r1 z1=>z1.ct fun y2 _ e2 r2 z2=>by
 cases z2.nilI;cases e2;cases e1;exact k a y1 y2 e q r1 r2
theorem Rep.tp4 (h:Rep K H v (.tuple [.str s,d1,d2,d3])) (k:∀ a y1 y2 y3,v= .ref a→SqT K H a [.str s,y1,y2,y3]→Rep K H y1 d1→Rep K H y2 d2→Rep K H y3 d3→G):G:=h.tp1 fun a _ e q z=>z.ct fun y1 _ e1 r1 z1=>z1.ct fun y2 _ e2 r2 z2=>z2.ct fun y3 _ e3 r3 z3=>by
 cases z3.nilI;cases e3;cases e2;cases e1;exact k a y1 y2 y3 e q r1 r2 r3
theorem Rep.tp6 (h:Rep K H v (.tuple [.str s,d1,d2,d3,d4,d5])) (k:∀ a y1 y2 y3 y4 y5,v= .ref a→SqT K H a [.str s,y1,y2,y3,y4,y5]→Rep K H y1 d1→Rep K H y2 d2→Rep K H y3 d3→Rep K H y4 d4→Rep K H y5 d5→G):G:=h.tp1 fun a _ e q z=>z.ct fun y1 _ e1 r1 z1=>z1.ct fun y2 _ e2 r2 z2=>z2.ct fun y3 _ e3 r3 z3=>z3.ct fun y4 _ e4 r4 z4=>z4.ct fun y5 _ e5 r5 z5=>by
 cases z5.nilI;cases e5;cases e4;cases e3;cases e2;cases e1;exact k a y1 y2 y3 y4 y5 e q r1 r2 r3 r4 r5
end
theorem big:(2000:Nat)<Af:=O0
theorem qke {n:Nat} (h:n≤2000):n≤Af:=Aw h (Nat.le_of_lt big)
theorem qgf {n:Nat} (h:n≤2000):n<Af:=Ch h big
theorem qv {s r:TS} {D:Ends} {σ:St} {H:Hp} (h:∀ D':Ends,(∀ σ H,r D σ H→D'.nx σ H)→(∀ v H,D.rt v H→D'.rt v H)→s D' σ H):qO s r D σ H:=h _ (fun _ _ q=>q) fun _ _ q=>q
theorem qZ {c:TT} {t u:TS} {D:Ends} {σ:St} {H:Hp} (h:∀ B:Bool→Hp→Prop,(∀ H,t D σ H→B true H)→(∀ H,u D σ H→B false H)→c σ H B):zO c t u D σ H:=h _ (fun _ q=>zp rfl q) fun _ q=>zh rfl q
theorem bP {B:Bool→Hp→Prop} {b:Bool} {H:Hp} (e:b=true) (h:B true H):B b H:=e▸h
theorem bN {B:Bool→Hp→Prop} {b:Bool} {H:Hp} (e:b=false) (h:B false H):B b H:=e▸h
theorem vj {α:Type} {l:List α} {i:Nat} (h:i<l.length):∃ x,l[i]?=some x:=⟨_,Br h⟩
theorem qfg {α:Type} {l:List α} {i:Nat} {x:α} (h:l[i]?=some x):l.drop i=x::l.drop (i+1):=by
 obtain ⟨hi,rfl⟩:=Cf.mp h;exact List.drop_eq_getElem_cons hi
theorem gD {s:TS} {D:Ends} {σ:St} {H:Hp} (h:∀ D':Ends,(∀ σ H,D.nx σ H→D'.nx σ H)→(∀ v H,D.rt v H→D'.rt v H)→s D' σ H):s D σ H:=h D (fun _ _ q=>q) fun _ _ q=>q
def tNo:TS:=fun _ _ _=>False
theorem Yx {X:Cx} {st:Stmt}:PS X st tNo:=fun _ _ _ _ _ _ h=>h.elim
section
variable {K:Frag} {x qual:Str} {st:Stmt} {f:Ac} {fd:FuncData}
theorem Fun.b1 (F:Fun K x qual st f fd) (p:Str) (h:∀ (kV doc pm:Ab) (an:Option Ac) (cdv ct a:Ab),bindArgs (PySem.W.fnOf x qual (j8 st) (jh st) (qj st) .none kV doc pm an cdv ct) ⟨[a],[]⟩=pure [(p,a)]):Jf K fd [p] []:=
 F.binds fun _ _ _ _ _ _ us hl=>match us,hl with | [_],_=>h ..
theorem Fun.b2 (F:Fun K x qual st f fd) (p q:Str) (h:∀ (kV doc pm:Ab) (an:Option Ac) (cdv ct a b:Ab),bindArgs (PySem.W.fnOf x qual (j8 st) (jh st) (qj st) .none kV doc pm an cdv ct) ⟨[a,b],[]⟩=pure [(p,a),(q,b)]):Jf K fd [p,q] []:=
 F.binds fun _ _ _ _ _ _ us hl=>match us,hl with | [_,_],_=>h ..
theorem Fun.b3 (F:Fun K x qual st f fd) (p q r:Str) (h:∀ (kV doc pm:Ab) (an:Option Ac) (cdv ct a b c:Ab),bindArgs (PySem.W.fnOf x qual (j8 st) (jh st) (qj st) .none kV doc pm an cdv ct) ⟨[a,b,c],[]⟩=pure [(p,a),(q,b),(r,c)]):Jf K fd [p,q,r] []:=
 F.binds fun _ _ _ _ _ _ us hl=>match us,hl with | [_,_,_],_=>h ..
theorem Fun.b4 (F:Fun K x qual st f fd) (p q r t:Str) (h:∀ (kV doc pm:Ab) (an:Option Ac) (cdv ct a b c d:Ab),bindArgs (PySem.W.fnOf x qual (j8 st) (jh st) (qj st) .none kV doc pm an cdv ct) ⟨[a,b,c,d],[]⟩=pure [(p,a),(q,b),(r,c),(t,d)]):Jf K fd [p,q,r,t] []:=
 F.binds fun _ _ _ _ _ _ us hl=>match us,hl with | [_,_,_,_],_=>h ..
end
section
variable {X:Cx}
theorem qdb:Je X (.type "str") (fun xs H Q=>(∃ x,xs=[.str x]∧Q (.str x) H)∨∃ i:Int,xs=[.int i]∧i.natAbs.log2<1920∧Q (.str (Str.ofString (toString i))) H):=by
 intro pins s σ H xs us Q I r h;rcases h with ⟨x,rfl,q⟩ | ⟨i,rfl,hi,q⟩
 ·obtain ⟨u,rfl,ru⟩:=JE r;obtain ⟨t,rfl⟩:=(show ∃ t,u=Value.str x t from ru);exact P.str_of_str ⟨.str x,H,I,⟨t,rfl⟩,q⟩
 ·obtain ⟨u,rfl,ru⟩:=JE r;obtain ⟨t,rfl⟩:=(show ∃ t,u=Value.int i t from ru);exact P.str_of_int hi ⟨.str _,H,I.tok _,⟨_,rfl⟩,q⟩
end
theorem TabS.none:∀ {T:List (Str×Str)} {r:List (Str×Ab)} {x:Str},TabS T r→((r.find? fun e=>decide (e.1=x)).map (·.2)).isSome=(T.lookup x).isSome
 | _,_,_,.nil=>rfl
 | _,_,x,.cons (x:=z) h=>by
  rw [Bg,C1]
  by_cases hx:z=x
  ·subst hx;simp
  ·have e:(x==z)=false:=by simpa using fun q=>hx q.symm
   rw [e,Ar hx];exact TabS.none h
def qik (T:List (Str×Str)) (ti:TE):TE:=fun σ H Q=>ti σ H fun y H1=>∃ x,y= .str x∧Q (.bl (T.lookup x).isSome) H1
section
variable {X:Cx} {nm:Str} {np pos:Pos} {i:Expr} {ti:TE}
theorem W3 {T:List (Str×Str)} (D:KTabS X.prog X.w X.K X.mg nm T) (hM:∃ a,X.mg nm=some (.ref a)∧(a==sysModules)=false) (hi:PE X i ti) (hg:Gl X nm:=by rfl) (hd:(nm==("__debug__":Str))=false:=by decide):PC X .In i (.Name nm np) (qik T ti):=by
 obtain ⟨a,kvs,hm,kd,tb⟩:=D.ex;obtain ⟨a',hm',hs⟩:=hM;cases hm.symm.trans hm';intro pins s σ H Q I h;refine thn (hi pins s σ H _ I h) fun iv s1 ⟨y,H1,I1,ry,x,ey,q1⟩=>JJ I1 hg hm ?_ hd;subst ey;obtain ⟨t,rfl⟩:=ry;refine wpAny_in_of (knd:=zb X.prog X.w) (k:=Sum.inr x) (JZ x t) hs (kd _ I1.kIn).mapOf ?_;have e:=WE kvs x;rw [e,tb.none];exact ⟨.bl _,H1,I1.tok _,rfl,q1⟩
theorem YE:MtR X "str.startswith" (fun x xs H Q=>∃ y z,x= .str y∧xs=[.str z]∧Q (.bl (Txt.startswith y z)) H):=by
 intro pins s σ H x xs v us Q I rx r h;obtain ⟨y,z,rfl,rfl,q⟩:=h;obtain ⟨t,rfl⟩:=rx;obtain ⟨u,rfl,t',rfl⟩:=JE r;exact SC.startswith ⟨.bl _,H,I,rfl,q⟩
theorem QD:MtR X "str.isdigit" (fun x xs H Q=>∃ y,x= .str y∧xs=[]∧Q (.bl (Txt.isdigit y)) H):=by
 intro pins s σ H x xs v us Q I rx r h;obtain ⟨y,rfl,rfl,q⟩:=h;obtain ⟨t,rfl⟩:=rx;cases r;exact SC.isdigit ⟨.bl _,H,I,rfl,q⟩
theorem qex:Je X (.type "int") (fun xs H Q=>∃ x n,xs=[.str x]∧PySem.intText? x=some n∧x.length≤640∧Q (.int n) H):=by
 intro pins s σ H xs us Q I r h;obtain ⟨x,n,rfl,hn,hl,q⟩:=h;obtain ⟨u,rfl,t,rfl⟩:=JE r;exact PySem.W.KIN.call_text hn hl ⟨.int n,H,I.tok _,⟨_,rfl⟩,q⟩
theorem qfn {K:Frag} (hK:X.K=K):OpR X (binaryOp .Add) (qh9 K):=hK▸qg2
end
def qj9 (K:Frag) (CL:Ac) (tb:XK→TS) (ts:TS):TS:=fun D σ H=>tb (fun C _ H'=>∃ Ca,C= .ref Ca∧PySem.W.exmOne K (.ref Ca) (.ref CL)=some true∧ts D (blank σ) H') D σ H
theorem qgv {X:Cx} {K:Frag} {CL:Ac} {body suite:List Stmt} {b₀:Stmt} {hx:Str} {tb:XK→TS} {ts:TS} {np hpos pos:Pos} (hK:X.K=K)
  (hb:∀ pins E1,PSs (X.tryC pins E1) body (tb E1)) (hs:∀ ea,PSs (X.suite ea) (b₀::suite) ts) (hm:X.mg hx=some (.ref CL))
  (hg:Gl X hx:=by rfl) (hdb:(hx==("__debug__":Str))=false:=by decide) (hstk:X.stack=X.env::X.outer:=by rfl) (hf:X.env.frame=some X.env.locals:=by rfl):
  PS X (.Try body [.ExceptHandler (some (.Name hx np)) none (b₀::suite) hpos] [] [] pos) (qj9 K CL tb ts):=by
 intro pins s σ H D I h;subst hK;refine wpAny_Try_except (C9 (hb pins _ [] s σ H D (I.more.wish _) h) (fun f s1 sp=>?_) fun e s1 he=>?_)
 ·have sp':SP X pins D f s1:=SP.less (SP.unwish sp);cases f with
  | next=>exact A8 sp'
  | brk=>exact sp'
  | cont=>exact sp'
  | ret u=>exact sp'
 obtain ⟨ps,σ',H0,s0,I0,ea,C,H',rfl,F,q⟩:=he;obtain ⟨Ca,rfl,hex,q⟩:=q;obtain ⟨B,a0,fl,hB⟩:=F.fly;have inF:∀ {h:Heap},Heap.FlyingW B X.stack ea (.ref Ca) a0 h→∀ b∈frs X.stack,∃ o,h.get? b=some o∧∀ vs,o.data≠ .fields vs:=fun {h} fl b hb=>(fl.2.2.1.mem hb).2;have hdF:∀ {h:Heap},Heap.FlyingW B X.stack ea (.ref Ca) a0 h→∀ b∈frs X.stack,∀ o,h.get? b=some o→∀ vs,o.data≠ .fields vs:=fun fl b hb o e vs=>by
  obtain ⟨o1,e1,d1⟩:=inF fl b hb;rw [e] at e1;cases e1;exact d1 vs
 have again:∀ {h:Heap},Heap.FlyingW B X.stack ea (.ref Ca) a0 h→s1.heap.UpToSlots h→Inv X pins σ' H' {s1 with heap:=h}:=fun {h} fl' sm=>by
  have F':=qfb F hB fl' sm (hdF fl);exact (I0.call' (ch:=[]) F'.os F'.un F'.hok F'.bare fun b z=>absurd z (by simp)).less
 have hfr:X.A.frames=some (X.env::X.outer):=hstk▸I.ok.frames;refine wpAny_looks_onW (base:=B) (a0:=a0) (cls:= .ref Ca) hfr hf (hstk▸fl) fun h4 held4 sm4=>wpAny_landsW held4 fun h5 fl5 sm5=>?_;have fl5':Heap.FlyingW B X.stack ea (.ref Ca) a0 h5:=hstk▸fl5;have I5:=again fl5' (sm4.trans sm5);refine wpAny_handleBy_cons (codeAny_handlers_test (JJ (I5.suite ea) hg hm ?_ hdb)) (by intro z;cases z)
 have lk:PySem.W.Looks (model X.prog X.w) h5 (typeOf (.ref ea)) (.ref Ca):=by
  obtain ⟨ob,e1,c1⟩:=fl5'.there;exact c1▸(PySem.W.Looks.ld e1).andThen .now
 refine (PySem.W.exm_one I5.kIn lk hex).here ?_;refine codeAny_handlers_suite (lands_againW fl5' fun h6 fl6 sm6=>?_);have I6:=again fl6 ((sm4.trans sm5).trans sm6);have len6:σ'.length=σ.length:=I0.len.trans I.len.symm;have I7:Inv X pins (blank σ) H' {s1 with heap:=h6}:=I6.weak (by rw [blank_len,len6]) fun j v e=>(qcp e).elim
 refine C9 (hs ea pins _ _ _ _ (I7.suite ea) q) (fun f s8 sp=>?_) fun _ _ z=>z.elim;cases f with
 | next=>obtain ⟨σ9,H9,J,z⟩:=sp;exact ⟨σ9,H9,J.unsuite I.ok,z⟩
 | brk=>obtain ⟨σ9,H9,J,z⟩:=sp;exact ⟨σ9,H9,J.unsuite I.ok,z⟩
 | cont=>obtain ⟨σ9,H9,J,z⟩:=sp;exact ⟨σ9,H9,J.unsuite I.ok,z⟩
 | ret u=>obtain ⟨v,σ9,H9,J,r,z⟩:=sp;exact ⟨v,σ9,H9,J.unsuite I.ok,r,z⟩
theorem yR {scope:Scope} {env:Env} {x:Str} (h:(relabel scope env).names.lookup x=some .cell∨(relabel scope env).names.lookup x=some .free):scope.names.lookup x=some .free∨scope.names.lookup x=some .cell:=by
 unfold relabel at h;dsimp only at h;generalize scope.names=l at h
 induction l with
 | nil=>rcases h with h | h <;> cases h
 | cons y r ih=>
  obtain ⟨n,k⟩:=y;rw [As] at h;dsimp only at h;rw [Bg];cases hx:x==n with
  | true=>
   dsimp only
   by_cases hc:(k==NameKind.free&&env.scope.kind== .function&&env.kindOf n==some .cell)=true
   ·simp only [Al,Az] at hc;rw [hc.1.1];exact .inl rfl
   ·rw [if_neg hc,Bg,hx] at h;dsimp only at h;exact h.symm
  | false=>
   dsimp only;refine ih ?_
   by_cases hc:(k==NameKind.free&&env.scope.kind== .function&&env.kindOf n==some .cell)=true
   ·rw [if_pos hc,Bg,hx] at h;exact h
   ·rw [if_neg hc,Bg,hx] at h;exact h
theorem Xl {scope:Scope} {env:Env} {x:Str} (h:scope.names.lookup x=some .cell):(relabel scope env).names.lookup x=some .cell:=by
 unfold relabel;dsimp only;generalize scope.names=l at h
 induction l with
 | nil=>cases h
 | cons y r ih=>
  obtain ⟨n,k⟩:=y;rw [Bg] at h;rw [As];dsimp only;cases hx:x==n with
  | true=>
   rw [hx] at h;have hk:k= .cell:=Bb h;subst hk;rw [if_neg (by simp),Bg,hx]
  | false=>
   rw [hx] at h
   by_cases hc:(k==NameKind.free&&env.scope.kind== .function&&env.kindOf n==some .cell)=true
   ·rw [if_pos hc,Bg,hx];exact ih h
   ·rw [if_neg hc,Bg,hx];exact ih h
structure CompScope1 (sc scope:Scope) (NX N:List Str) (js:List (Option Nat)) (z:Str):Prop where
 cells:∀ n acc,cellsFrom n scope.names acc=(z,n)::acc
 only:∀ y∈scope.names,y.2= .cell→y.1=z
 zfree:∀ y∈scope.names,y.2= .free→y.1≠z
 kind:scope.kind= .function
 names:∀ y∈scope.names,y.2= .local→scope.names.lookup y.1=some .local
 free:∀ y∈scope.names,y.2= .free→sc.names.lookup y.1=some .cell∨sc.names.lookup y.1=some .free
 len:js.length=N.length
 out:∀ p∈js.zip N,∀ j∈p.1,NX[j]?=some p.2∧scope.names.lookup p.2=some .free
def JQ (X:Cx) (scope:Scope) (cl:List (Str×Ac)) (C:Ac) (z:Str) (N:List Str) (fp:List Ac) (s:Ae) (H:Hp):Cx:={cxC X scope ((z,C+1)::cl) C N fp s H with fn:=fun y=>decide (y=z)}
theorem qch {scO scope:Scope} {env:Env} {NX N:List Str} {js:List (Option Nat)} (h:CompScope scO scope NX N js):CompScope (relabel scO env) scope NX N js:=
 ⟨h.cell,h.kind,h.names,fun y hy hf=>(h.free y hy hf).elim (fun q=> .inl (Xl q)) fun q=>VH q,h.len,h.out⟩
theorem qhc {M:Model} {A:Around} {E:Ab→Ae→Prop} {s:Ae} {z:Str} {scope:Scope} {globals:Ac} {closure:List (Str×Ac)} {qual:Str} {outer:Env} {Q:Env→Ae→Prop} (hc:∀ n acc,cellsFrom n scope.names acc=(z,n)::acc)
  (hQ:∀ h',h'.Ns s.heap.objs.size (fun _=>none)→(∀ b o,s.heap.get? b=some o→h'.get? b=some o)→h'.IsCell (s.heap.objs.size+1) none→Q (newEnv scope s.heap.objs.size globals ((z,s.heap.objs.size+1)::closure) qual none .none (some outer) builtinsNs) {s with heap:=h'}):
  wpAny M A (newFunctionEnv scope globals closure [] qual none .none (some outer)) Q E s:=by
 simp only [newFunctionEnv,Option.isSome_some,if_true];refine Am (wpAny_alloc ?_);refine Am (wpAny_layCells _ (fun name kind cells=>by cases hkc:kind==NameKind.cell <;> simp) _ _ _ _ ?_)
 have ok:=cellsFrom_ok scope.names (s.heap.push {cls:= .type "dict",data:= .dict #[]}) (s.heap.objs.size+1) [] ⟨fun _ _ hm=>(nomatch hm),List.Pairwise.nil⟩ (by rw [Cp];exact Ax _)
 rw [Cp,hc] at ok;rw [show ({s with heap:=s.heap.push {cls:= .type "dict",data:= .dict #[]}}:Ae).heap.objs.size=s.heap.objs.size+1 from Cp ..,hc,List.forIn_nil]
 refine Am (A8 (A8 ?_));exact hQ _ ((Heap.Ns.new s.heap (.type "dict")).keeps (pushCells_keeps _ _)) (fun b o e=>pushCells_keeps _ _ b o (Av _ e)) (ok.empty z _ Au).1
section
variable {X:Cx} {sc scope:Scope} {NX N:List Str} {js:List (Option Nat)} {elt iter tg:Expr} {ifs:List Expr} {pos:Pos} {wi:TI} {g:TG} {tt:TT} {te:TE} {z:Str}
theorem XM {pins:List (Ac×Obj)} {σ:St} {H2:Hp} {s2:Ae} {fp:List Ac} {cl:List (Str×Ac)} {h1:Heap} {tk:Nat} (hsc:X.env.scope=sc) (hNX:X.N=NX) (ok:CompScope1 sc scope NX N js z) (I2:Inv X pins σ H2 s2)
  (cl1:∀ x c,cl.lookup x=some c→X.env.cells.lookup x=some c) (cl2:∀ y∈scope.names,y.2= .free→∃ c,cl.lookup y.1=some c) (f2:∀ b∈fp,vn X pins H2 b) (hfp:∀ b∈fp,b<s2.heap.objs.size)
  {C:Ac} (hC:s2.heap.objs.size≤C) (old:∀ b o,s2.heap.get? b=some o→h1.get? b=some o) (hns:h1.Ns C fun _=>none) (hz:h1.IsCell (C+1) none):
  Inv (JQ X scope cl C z N fp s2 H2) [] (zD js σ) H2 {s2 with heap:=h1,toks:=tk}:=by
 have cOld:∀ x c,X.env.cells.lookup x=some c→c<s2.heap.objs.size:=fun x c e=>by
  obtain ⟨v,z⟩:=I2.cell x c e;exact z.lt
 have k1:∀ x c,((z,C+1)::cl).lookup x=some c→(x=z∧c=C+1)∨(cl.lookup x=some c∧X.env.cells.lookup x=some c∧c<s2.heap.objs.size):=fun x c e=>by
  rw [Bg] at e;cases q:x==z with
  | true=>
   rw [q] at e;cases e;exact .inl ⟨by simpa using q,rfl⟩
  | false=>
   rw [q] at e;exact .inr ⟨e,cl1 x c e,cOld x c (cl1 x c e)⟩
 have k2:∀ x c,x≠z→cl.lookup x=some c→((z,C+1)::cl).lookup x=some c:=fun x c n e=>by
  rw [Bg,show (x==z)=false from by simpa using n]
  exact e
 have k0:((z,C+1)::cl).lookup z=some (C+1):=by
  rw [Bg];simp
 refine ⟨⟨I2.ok.mod,?_,I2.ok.glob,I2.ok.blt,hC,fun x y c e1 e2=>?inj,fun x hx=>?_,fun x c hf e=>?cab,I2.ok.hd,I2.ok.frames,.inl rfl,fun b hb=>⟨Bu (Bj (hfp b hb) hC),fun x c e=>?exf⟩,
  I2.bs,Aw I2.ok.bsz I2.sz,fun b o e hb=>?_,fun b hb z=>?_,I2.stack,I2.stkFree⟩,rfl,I2.bare,Un.kept old,⟨_,hns,fun i x v e1 e2 e3=>?_⟩,fun x c e=>?_,I2.hok.fresh hC,fun x c e=>?frc,fun p hp=>absurd (show p∈([]:List (Ac×Obj)) from hp) (by simp),I2.hok.kept old,?_⟩
 ·exact ok.kind
 case inj=>
  rcases k1 x c e1 with ⟨rfl,rfl⟩ | ⟨_,a1,l1⟩
  ·rcases k1 y _ e2 with ⟨rfl,_⟩ | ⟨_,_,l2⟩
   ·rfl
   ·exact absurd (Bj (Nat.lt_of_succ_lt l2) hC) (Cq _)
  ·rcases k1 y c e2 with ⟨_,rfl⟩ | ⟨_,a2,_⟩
   ·exact absurd (Bj (Nat.lt_of_succ_lt l1) hC) (Cq _)
   ·exact I2.ok.inj x y c a1 a2
 ·rcases yR hx with q | q
  ·obtain ⟨c,hc⟩:=cl2 (x,.free) (A5 q) rfl;exact ⟨c,k2 x c (ok.zfree (x,.free) (A5 q) rfl) hc⟩
  ·have e:=ok.only (x,.cell) (A5 q) rfl;have e':x=z:=e;rw [e'];exact ⟨_,k0⟩
 case cab=>
  have hf':x=z:=A3 hf;rcases k1 x c e with ⟨_,rfl⟩ | ⟨h1,_,_⟩
  ·show s2.heap.objs.size≤C+1;omega
  ·have e':((z,C+1)::cl).lookup x=some c:=e;rw [hf',k0] at e';cases e';show s2.heap.objs.size≤C+1;omega
 case exf=>
  rcases k1 x c e with ⟨_,rfl⟩ | ⟨_,a1,_⟩
  ·have l2:=hfp b hb;intro w;rw [← w] at l2;exact absurd (Bj (Nat.lt_of_succ_lt l2) hC) (Cq _)
  ·exact (f2 b hb).2.2.2.2.1 x c a1
 case frc=>
  rcases k1 x c e with ⟨_,rfl⟩ | ⟨_,a1,_⟩
  ·exact I2.hok.fresh ⋯
  ·exact I2.freeC x c a1
 ·rcases (f2 b hb).2.2.2.1 with z | z
  ·exact I2.ok.noex b o e z
  ·exact absurd (Bj (A7 (I2.ok.bs b o e).1) z) (Cq _)
 ·rcases Ap.mp (I2.stkSub b z) with q | q
  ·exact (f2 b hb).2.1 q
  ·exact (f2 b hb).2.2.1 q
 ·have e1':N[i]?=some x:=e1;have e2':(zD js σ)[i]?=some (some v):=e2;unfold zD at e2';rw [Bq] at e2';cases hj:js[i]? with
  | none=>rw [hj] at e2';cases e2'
  | some oj=>
   rw [hj] at e2';cases oj with
   | none=>cases e2'
   | some j=>
    have e4:(σ[j]?).join=some v:=Bb e2';have e5:σ[j]?=some (some v):=by
     cases z:σ[j]? with
     | none=>rw [z] at e4;cases e4
     | some ov=>
      rw [z] at e4;have e6:ov=some v:=e4;rw [e6]
    have hz:(some j,x)∈js.zip N:=by
     refine Bx (i:=i) ?_;rw [C6];exact ⟨hj,e1'⟩
    obtain ⟨q1,q2⟩:=ok.out _ hz j rfl;have q3:=ok.free (x,.free) (A5 q2) rfl;rw [← hsc] at q3;obtain ⟨m,hn,hl⟩:=I2.loc;obtain ⟨u,r,l⟩:=hl j x v (by rw [hNX];exact q1) e5 (.inr q3)
    refine ⟨u,r,.inr ?_⟩;rcases l with ⟨k,_⟩ | ⟨_,c,hc,hcell⟩
    ·have k':X.env.scope.names.lookup x=some .local:=k;rcases q3 with q3 | q3 <;> (rw [k'] at q3;cases q3)
    ·obtain ⟨c',hc'⟩:=cl2 (x,.free) (A5 q2) rfl;have ec:=cl1 x c' hc';rw [hc] at ec;cases ec;refine ⟨?_,c,k2 x c (ok.zfree (x,.free) (A5 q2) rfl) hc',?_⟩
     ·have e3':Vis (relabel scope X.env) x:=e3;rcases e3' with e3' | e3' | e3'
      ·have:=JB q2 (env:=X.env);exact absurd e3' this
      ·exact .inl e3'
      ·exact .inr e3'
     ·obtain ⟨o,ho,hd⟩:=hcell;exact ⟨o,old _ _ ho,hd⟩
 ·rcases k1 x c e with ⟨_,rfl⟩ | ⟨_,a1,_⟩
  ·exact ⟨_,hz⟩
  ·obtain ⟨v,o,ho,hd⟩:=I2.cell x c a1;exact ⟨v,o,old _ _ ho,hd⟩
 ·show (zD js σ).length=N.length;unfold zD;rw [Ah,ok.len]
theorem QW {pins:List (Ac×Obj)} {σ:St} {H2:Hp} {s2:Ae} {it:Ac} {fp:List Ac} {tn:Nat→Heap→Prop} {J:It} {cl:List (Str×Ac)} {Q:VK} {E:Ab→Ae→Prop} {RR:Ab→Ac→Result→Ae→Prop}
  (hsc:X.env.scope=sc) (hNX:X.N=NX) (ok:CompScope1 sc scope NX N js z) (hc:X.calm=true) (I2:Inv X pins σ H2 s2)
  (cl1:∀ x c,cl.lookup x=some c→X.env.cells.lookup x=some c) (cl2:∀ y∈scope.names,y.2= .free→∃ c,cl.lookup y.1=some c)
  (T:Turn X.prog X.w X.K tg J fp it tn) (st2:tn 0 s2.heap) (f2:∀ b∈fp,vn X pins H2 b)
  (hg:∀ C,PG (JQ X scope cl C z N fp s2 H2) tg g) (ht:∀ C,PF (JQ X scope cl C z N fp s2 H2) ifs tt) (he:∀ C,PE (JQ X scope cl C z N fp s2 H2) elt te)
  (own:Q0 js g) {W:Nat→Nat→List V→Hp→Prop} {m0:Nat} (w0:W 0 m0 [] H2)
  (turn:∀ i m ys H',W i m ys H'→ys.length≤Af∧((J.stop i H'∧∀ D,H' D=none→Q (.ref D) (upd H' D (.lst ys)))∨
   (J.go i H'∧∃ N:List V→Hp→Prop,(∀ ys H,N ys H→∃ m',m'<m∧W (i+1) m' ys H)∧
    ∀ x H2,J.yld i H' x H2→g x (zD js σ) H2 fun σ3 H3=>tt σ3 H3 fun ok H4=>if ok=true then te σ3 H4 fun y H5=>N (ys++[y]) H5 else N ys H4)))
  (fin:∀ D C m s' Hf,Inv X pins σ Hf s'→s'.heap.Ns C m→vn X pins Hf C→Q (.ref D) Hf→RR (.ref D) C (.ok .next) s'):
  wpAny (model X.prog X.w) X.A (newList []) (fun acc s₃=>wpAny (model X.prog X.w) X.A (newFunctionEnv scope X.env.globals cl [] X.env.qual none .none (some X.env)) (fun cenv s₄=>
   codeAny (model X.prog X.w) X.A (.compStart (.ListComp elt [⟨tg,iter,ifs,0⟩] scope pos) 0 (.ref it) acc {cenv with scope:=relabel scope X.env}) (RR acc cenv.locals) s₄) E s₃) E s2:=by
 refine C8 (qhc ok.cells (fun h₁ hns₁ keep₁ hz₁=>?_));dsimp only at hns₁ keep₁ hz₁ ⊢;generalize hHH:s2.heap.push {cls:= .type "list",dict:=none,data:= .seq ([]:List Ab).toArray}=HH at hns₁ keep₁ hz₁ ⊢;have hCe:HH.objs.size=s2.heap.objs.size+1:=by rw [← hHH,Cp]
 obtain ⟨D,hD⟩:∃ D:Nat,D=s2.heap.objs.size:=⟨_,rfl⟩;obtain ⟨C,hC⟩:∃ C:Nat,C=HH.objs.size:=⟨_,rfl⟩;rw [← hC] at hCe hns₁ hz₁ ⊢;rw [← hD] at hCe ⊢;have hDC:D≠C:=⋯;have hCle:s2.heap.objs.size≤C:=⋯;have hfp:∀ b∈fp,b<s2.heap.objs.size:=fun b hb=>by
  obtain ⟨o,e,_⟩:=T.obj 0 _ st2 b hb;exact A7 e
 have old:∀ b o,s2.heap.get? b=some o→h₁.get? b=some o:=fun b o e=>keep₁ b o (hHH▸Av _ e);have hacc:h₁.PlainList D #[]:=⟨_,keep₁ _ _ (by rw [← hHH,hD];exact Bh _ rfl)⟩
 have hns:h₁.Ns C fun _=>none:=hns₁;have I4:Inv (JQ X scope cl C z N fp s2 H2) [] (zD js σ) H2 {s2 with heap:=h₁,toks:=s2.toks}:=
  XM hsc hNX ok I2 cl1 cl2 f2 hfp ⋯ old hns hz₁
 have st4:tn 0 h₁:=T.keep 0 _ _ st2 fun b _ o e=>old b o e;have cOld:∀ x c,X.env.cells.lookup x=some c→c<s2.heap.objs.size:=fun x c e=>by
  obtain ⟨v,z⟩:=I2.cell x c e;exact z.lt
 have nDfp:D∉fp:=fun z=>absurd (hfp D z) (by rw [hD];exact Cq _)
 have stat:∀ {pl:List (Ac×Obj)} {H':Hp},(∀ b∈fp,H' b=none)→(∀ p∈pl,p.1∉fp)→∀ b∈fp,vn (JQ X scope cl C z N fp s2 H2) pl H' b:=fun {pl H'} hn hp b hb=>by
  refine ⟨hn b hb,(I4.ok.exf b hb).1,I4.ok.exfs b hb,.inl hb,(I4.ok.exf b hb).2,fun p hpp z=>?_⟩;exact hp p (by simpa [JQ,cxC] using hpp) (z▸hb)
 have fpD:∀ {H':Hp},H' D=none→vn (JQ X scope cl C z N fp s2 H2) [] H' D:=fun {H'} hn=>by
  refine ⟨hn,hDC,fun z=>?_,.inr (by show s2.heap.objs.size≤D;omega),fun x c e=>?_,fun p hpp=>absurd (show p∈([]:List (Ac×Obj)) from hpp) (by simp)⟩
  ·obtain ⟨_,o,ho,_⟩:=I4.ok.funs.mem z;exact absurd (show D<s2.heap.objs.size from A7 ho) (by rw [hD];exact Cq _)
  ·have e':((z,C+1)::cl).lookup x=some c:=e;rw [Bg] at e';cases q:x==z with
   | true=>
    rw [q] at e';cases e';have q1:D<C:=by rw [hCe];exact Eg _
    exact Et (Nat.lt_succ_of_lt q1)
   | false=>
    rw [q] at e';exact Bu (by rw [hD];exact cOld x c (cl1 x c e'))
 refine (fun loop=>codeAny_compStart_list (loop _ rfl) (T.self X.A 0 _ _ _ st4 (loop _ rfl))) (fun s₃ (hs₃:s₃={s2 with heap:=h₁,toks:=s2.toks})=>?_)
 subst hs₃;refine VX (env:=compEnvC scope ((z,C+1)::cl) C X.env) (fun n s'=>∃ i ys its H',Inv (JQ X scope cl C z N fp s2 H2) [] (zD js σ) H' s'∧tn i s'.heap∧(∀ b∈fp,H' b=none)∧s'.heap.PlainList D its∧qH ys its.toList∧H' D=none∧W i n ys H')
  ?_ m0 ⟨0,[],#[],H2,I4,st4,fun b hb=>(f2 b hb).1,hacc,.nil,I2.hok.fresh ⋯,w0⟩
 rintro n s5 ⟨i,ys,its,H5,I5,st5,fr5,⟨k5,pl5⟩,vl5,hD5,w5⟩;obtain ⟨hz,tr⟩:=turn i n ys H5 w5;have hz':its.size≤Af:=by
  have:=vl5.length;have e4:its.toList.length=its.size:=by simp
  omega
 have I5':Inv (JQ X scope cl C z N fp s2 H2) [(D,{cls:= .type "list",data:= .seq its k5})] (zD js σ) H5 s5:=I5.pins_of fun p hp=>by
  have e:p=(D,{cls:= .type "list",data:= .seq its k5}):=by simpa using hp
  subst e;exact ⟨pl5,hD5,hDC,(fpD hD5).2.2.1,fun v z=>by cases z⟩
 have np:∀ p∈[(D,({cls:= .type "list",data:= .seq its k5}:Obj))],p.1∉fp:=fun p hp=>by
  have e:p=(D,{cls:= .type "list",data:= .seq its k5}):=by simpa using hp
  subst e;exact nDfp
 rcases tr with ⟨stop,qn⟩ | ⟨go,N',hN,step⟩
 ·refine thn (T.done (JQ X scope cl C z N fp s2 H2) rfl rfl rfl hc i _ s5 (zD js σ) H5 (fun _ _=>False) I5' (stat fr5 np) st5 stop) fun r s6 ⟨hr,I6⟩=>?_;subst hr;have pD:=(I6.pin _ (Bc _ Au)).1;have I6':Inv (JQ X scope cl C z N fp s2 H2) [] (zD js σ) H5 s6:=I6.pins_of fun p hp=>absurd hp (by simp)
  have I7:Inv (JQ X scope cl C z N fp s2 H2) [] (zD js σ) (upd H5 D (.lst ys)) s6:=I6'.track (fpD hD5) ⟨hz,its.toList,k5,vl5,by simpa using pD⟩
  obtain ⟨m,hn,_⟩:=I7.loc;have hfC:upd H5 D (.lst ys) C=none:=I7.free;refine fin D C m s6 (upd H5 D (.lst ys)) ?_ hn (I2.fpOk ⋯ hfC) (qn D hD5);exact I2.call' (ch:=fp) I7.os I7.base I7.hok I7.bare fun b hb=>⟨(f2 b hb).2.2.2.1,(f2 b hb).2.1,(f2 b hb).2.2.2.2.1,(f2 b hb).2.2.2.2.2⟩
 ·refine thn (T.item (JQ X scope cl C z N fp s2 H2) rfl rfl rfl hc i _ s5 (zD js σ) H5 (fun _ _=>False) I5' (stat fr5 np) st5 go) fun r s6 ⟨u,hr,h6⟩=>?_;subst hr;refine thn h6 fun _ s7 ⟨x,H7,I7,r7,y7,st7,fr7⟩=>?_;have I7':=I7.pinned (stat fr7 np) (T.obj _ _ st7);have q7:=own σ x H7 _ (step x H7 y7);refine thn (hg C _ s7 (zD js σ) H7 x u _ I7' r7 q7) fun _ s8 ⟨σ8,H8,I8,ag8,q8⟩=>?_;have keepD:∀ {σ9:St} {H9:Hp} {s9:Ae},Inv (JQ X scope cl C z N fp s2 H2) ([(D,{cls:= .type "list",data:= .seq its k5})]++JP fp s7.heap) σ9 H9 s9→s9.heap.get? D=some {cls:= .type "list",data:= .seq its k5}∧H9 D=none:=fun I9=>by
   obtain ⟨a,b,_⟩:=I9.pin _ (Bc _ (B1 _ Au));exact ⟨a,b⟩
  have keepF:∀ {σ9:St} {H9:Hp} {s9:Ae},Inv (JQ X scope cl C z N fp s2 H2) ([(D,{cls:= .type "list",data:= .seq its k5})]++JP fp s7.heap) σ9 H9 s9→tn (i+1) s9.heap∧∀ b∈fp,H9 b=none:=fun I9=>by
   refine ⟨T.keep _ _ _ st7 fun b hb o e=>(I9.pin (b,o) (Bc _ (Bc _ (jX hb e)))).1,fun b hb=>?_⟩;obtain ⟨o,e,d⟩:=T.obj _ _ st7 b hb;exact (I9.pin (b,o) (Bc _ (Bc _ (jX hb e)))).2.1
  refine thn (ht C _ s8 σ8 H8 _ I8 q8) fun okb s9 ⟨H9,I9,q9⟩=>?_;have again:∀ {H10:Hp} {s10:Ae},Inv (JQ X scope cl C z N fp s2 H2) ([(D,{cls:= .type "list",data:= .seq its k5})]++JP fp s7.heap) σ8 H10 s10→Inv (JQ X scope cl C z N fp s2 H2) [] (zD js σ) H10 s10:=fun I=>(I.pins_of fun p hp=>absurd hp (by simp)).weak ag8.1.symm ag8.2
  cases okb with
  | false=>
   have q9':N' ys H9:=q9;obtain ⟨m',hm,w9⟩:=hN _ _ q9';show ∃ m,m<n∧_;exact ⟨m',hm,i+1,ys,its,H9,again I9,(keepF I9).1,(keepF I9).2,⟨k5,(keepD I9).1⟩,vl5,(keepD I9).2,w9⟩
  | true=>
   have q9':te σ8 H9 fun y H5=>N' (ys++[y]) H5:=q9;show wpAny _ _ (eval elt (compEnvC scope ((z,C+1)::cl) C X.env)) _ _ s9;refine thn (he C _ s9 σ8 H9 _ I9 q9') fun yv s10 ⟨y,H10,I10,r10,q10⟩=>?_;obtain ⟨m',hm,w10⟩:=hN _ _ q10;refine wpAny_list_append_plain (hsz:=hz') ⟨k5,(keepD I10).1⟩ fun h' hl' hs'=>?_;refine ⟨m',hm,i+1,ys++[y],its.push yv,H10,?_,?_,(keepF I10).2,hl',?_,(keepD I10).2,w10⟩
   ·obtain ⟨g0,g1,g2,g3,g4,g5⟩:=fpD (keepD I10).2;exact (again I10).turned (t':=s10.toks) (fun b o hb e=>(hs'.2 b hb).trans e) g0 g1 g3 g4 g5
   ·exact T.keep _ _ _ (keepF I10).1 fun b hb o e=>(hs'.2 b (fun z=>nDfp (z▸hb))).trans e
   ·rw [Du];exact vl5.append (.cons r10 .nil)
theorem qec (hi:PI X tg iter wi) (hg:∀ cl C fp s H,PG (JQ X scope cl C z N fp s H) tg g) (ht:∀ cl C fp s H,PF (JQ X scope cl C z N fp s H) ifs tt) (he:∀ cl C fp s H,PE (JQ X scope cl C z N fp s H) elt te)
  (own:Q0 js g) (ok:CompScope1 sc scope NX N js z) (hsc:X.env.scope=sc:=by rfl) (hNX:X.N=NX:=by rfl) (hc:X.calm=true:=by rfl) (hs:∀ x,foldedSetIterable iter X.env x=pure x:=by intro _;rfl):
  PE X (.ListComp elt [⟨tg,iter,ifs,0⟩] scope pos) (wB wi js g tt te):=by
 intro pins s σ H Q I h;rw [eval_ListComp];obtain ⟨cl,hclos,cl1,cl2⟩:=Vs (scope:=scope) (env:=X.env) fun y hy hf=>I.ok.has y.1 (by
  have q:=ok.free y hy hf;rw [← hsc] at q;exact q)
 refine wpAny_comprehension_free (use:=none) rfl hs hclos ok.kind ok.names (thn (hi pins s σ H _ I h) fun xv s1 h1=>thn h1 fun itv s2 h2=>?_);obtain ⟨it,fp,tn,J,H2,rfl,I2,T,st2,f2,W,⟨m0,w0⟩,turn⟩:=h2;refine QW (RR:=fun acc C=>compPost (model X.prog X.w) X.A X.xe none (EP X pins σ Q) acc C) hsc hNX ok hc I2 cl1 cl2 T st2 f2 (fun C=>hg cl C fp s2 H2) (fun C=>ht cl C fp s2 H2) (fun C=>he cl C fp s2 H2) own w0 turn fun D C m s' Hf I' hn f q=>?_;obtain ⟨g0,g1,g2,g3,g4,g5⟩:=f;exact ⟨m,hn,fun h' hs'=>⟨.ref D,Hf,I'.turned (t':=s'.toks) (fun b o hb e=>(hs'.2 b hb).trans e) g0 g1 g3 g4 g5,rfl,q⟩⟩
end
end L2
namespace L2
open PySem PySem.Spec PyProof.Rows
open Sem (wp)
open Builtin
theorem qf9 (l:Ac) (items:Array Ab) (n:Nat) (d:Option Ac) (sl:Array (Option Ab)) (x:Int) (u:Tok) (hc0:¬ (decide (x< -(2 ^ 63))||decide (x ≥ 2 ^ 63))=true) (hc1:¬ (items.isEmpty||x==1)=true) (hc2:¬ (decide (x≤0)||items.isEmpty)=true) (hc3:¬ (items.size:Int)*x>(2 ^ 63 - 1) / 8) (hc4:¬ Tuple.tupleTooMany ((items.size:Int)*x)=true)
  (hc5:(List.foldl (fun x1 x2=>x1++x2) #[] (List.replicate x.toNat items)).size≤Af):
  Meets (Builtin.«tuple.__mul__» ⟨[.ref l,.int x u],[]⟩) (fun _ R s=>s.heap.get? l=some {cls:= .type "tuple",dict:=d,data:= .seq items n,slots:=sl}∧R (.ok (.ret (Value.ref s.heap.objs.size))) {s with heap:=s.heap.push {cls:=Value.type "tuple",data:=Data.seq (List.foldl (fun x1 x2=>x1++x2) #[] (List.replicate x.toNat items))},toks:=s.toks}):=
 .of_wp fun prog w A R s h=>by
  obtain ⟨hp,g,d,tk,os⟩:=s;obtain ⟨hl,h⟩:=h;have f1:=AutoSeq1.idx_int;have f2:=AutoSeq1.sub_tuple_tuple
  wp_walk using Eo hl
  refine wpAny_ite_false (Ar hc0) ?_
  wp_walk using Eo hl
  refine wpAny_ite_false (Ar hc3) ?_
  wp_walk using Eo hl
  exact ⟨_,rfl,h⟩
theorem QA:fillsNumberSlot (.type "tuple") "mul"=pure false:=PySem.fillsNumberSlot_seq (id:="tuple.__mul__") (r:=some (.builtin "tuple.__rmul__")) F.slot_tuple_mul.lookup ∅ F.slot_tuple_rmul.lookup ∅
theorem qgm:seqRepeat? (.type "tuple")=pure (some (.builtin "tuple.__mul__")):=by
 unfold seqRepeat?;rw [PySem.seqSlot_of (T:="tuple") (name:="__mul__") (id:="tuple.__mul__") F.slot_tuple_mul.lookup ∅,PySem.seqSlot_of (T:="tuple") (name:="__rmul__") (id:="tuple.__rmul__") F.slot_tuple_rmul.lookup ∅];rfl
theorem qdt (a:Int) (t:Tok) (l:Ac) (items:Array Ab) (n:Nat) (d:Option Ac) (sl:Array (Option Ab)):
  Meets (Builtin.«int.__rmul__» ⟨[.int a t,.ref l],[]⟩) (fun _ R s=>s.heap.get? l=some {cls:= .type "tuple",dict:=d,data:= .seq items n,slots:=sl}∧R (.ok (.ret Value.notImplemented)) s):=
 .of_wp fun prog w A R s h=>by obtain ⟨hp,g,d,tk,os⟩:=s;obtain ⟨hl,h⟩:=h;wp_walk using Eo hl;exact ⟨_,rfl,h⟩
def qh8 (K:Frag):R2:=fun x y H Q=>∃ a k xs,x= .ref a∧y= .int k∧SqT K H a xs∧xs≠[]∧2≤k∧k≤100∧xs.length≤100∧∀ p,H p=none→Q (.ref p) (upd H p (.tup (List.replicate k.toNat xs).flatten))
theorem qg1 {X:Cx}:OpR X (binaryOp .Mult) (qh8 X.K):=by
 intro pins s σ H x y v u Q I rx ry h;obtain ⟨a,k,xs,rfl,rfl,ha,hne,h1,h2,h3,q⟩:=h;cases rx;obtain ⟨t,rfl⟩:=ry;obtain ⟨its,r,⟨⟨oc,od,oda,osl⟩,e,hcl,n,hdd⟩,_⟩:=I.tuple ha;cases hcl;cases hdd;have hl:=r.length;have hni:its≠[]:=fun z=>hne (r.nil_iff.mp z);have hnew:List.foldl (fun x1 x2=>x1++x2) #[] (List.replicate k.toNat its.toArray)=(List.replicate k.toNat its).flatten.toArray:=by
  have z:=YM its k.toNat [];rw [B2] at z;exact z
 have hk:k.toNat≤100:=⋯;have hm:k.toNat*its.length≤10000:=Aw (Nat.mul_le_mul hk (show its.length≤100 from ⋯)) O0;have hmi:(its.toArray.size:Int)*k≤10000:=by
  have e1:(its.toArray.size:Int)=(its.length:Int):=by rw [A6]
  have e2:k=(k.toNat:Int):=⋯;rw [e1,e2,Int.mul_comm]
  exact_mod_cast hm
 have c0:¬ (decide (k< -(2 ^ 63))||decide (k ≥ 2 ^ 63))=true:=by
  rw [Ar ⋯,Ar ⋯];exact Ai
 have ne:its.toArray.isEmpty=false:=by
  cases its with
  | nil=>exact absurd rfl hni
  | cons _ _=>rfl
 have c1:¬ (its.toArray.isEmpty||k==1)=true:=by
  rw [ne,show (k==1)=false from by rw [Bf];omega]
  exact Ai
 have c2:¬ (decide (k≤0)||its.toArray.isEmpty)=true:=by
  rw [ne,Ar ⋯];exact Ai
 have c3:¬ (its.toArray.size:Int)*k>(2 ^ 63 - 1) / 8:=by
  have:(10000:Int)≤(2 ^ 63 - 1) / 8:=O0;omega
 have c4:¬ Tuple.tupleTooMany ((its.toArray.size:Int)*k)=true:=by
  unfold Tuple.tupleTooMany;have:(10000:Int)≤((Af:Nat):Int):=O0;rw [Bk];omega
 have hlen:(List.replicate k.toNat its).flatten.length≤10000:=by
  rw [qao];exact hm
 have c5:(List.foldl (fun x1 x2=>x1++x2) #[] (List.replicate k.toNat its.toArray)).size≤Af:=by
  rw [hnew,A6];exact Aw hlen O0
 refine wpAny_binaryOp_repeat_ref (T:="tuple") (U:="int") O0 ⟨_,e,rfl⟩ (fun s'=>typeIs_int s' k t) QA F.fills_int_mul F.slot_int_rmul qgm F.slot_int_index.lookup
  (E2 F.slot_int_rmul (typeIs_int s k t) F.entry_int_rmul (F.args_int_rmul_2 _ _) (qdt k t a its.toArray n od osl)
   ⟨e,rfl,⟨_,e,rfl⟩,E2 F.slot_tuple_mul ⟨_,e,rfl⟩ F.entry_tuple_mul (F.args_tuple_mul_2 _ _) (qf9 a its.toArray n od osl k t c0 c1 c2 c3 c4 c5) ⟨e,?_⟩⟩)
 rw [hnew];refine ⟨.ref s.heap.objs.size,_,I.laid (t':=s.toks) (o:= .tup (List.replicate k.toNat xs).flatten) (fun b ob z=>Av _ z) (Ax _) ?_,rfl,q _ (I.hok.fresh (Ax _))⟩;refine ⟨?_,_,r.rep k.toNat,IsTup.new _ _⟩;rw [qao,hl];exact Aw hm O0
theorem zB {es:List Expr} {c:Nat} {p:Pos} {rest:List Expr} {env:Env}:starEach (.Tuple es c p::rest) env=(false,eval (.Tuple es c p) env)::starEach rest env:=rfl
theorem Qh {a b:Expr} {op:Operator} {p:Pos} {rest:List Expr} {env:Env}:starEach (.BinOp a op b p::rest) env=(false,eval (.BinOp a op b p) env)::starEach rest env:=rfl
theorem jp {x:Str} {p:Pos} {rest:List Expr} {env:Env}:starEach (.Name x p::rest) env=(false,eval (.Name x p) env)::starEach rest env:=rfl
theorem qX {v:Const} {k:Nat} {p:Pos} {rest:List Expr} {env:Env}:starEach (.Constant v k p::rest) env=(false,eval (.Constant v k p) env)::starEach rest env:=rfl
theorem qab {f:Expr} {a:List Expr} {k:List Keyword} {p:Pos} {rest:List Expr} {env:Env}:starEach (.Call f a k p::rest) env=(false,eval (.Call f a k p) env)::starEach rest env:=rfl
theorem qen {X:Cx} {K:Frag} (hK:X.K=K):OpR X (binaryOp .Mult) (qh8 K):=hK▸qg1
end L2
namespace Bud
def PT (n:Nat) (deep k l:Int):Prop:=deep≤(n:Int)∧0≤k∧k+4*l≤1000 - 10*(n:Int)∧2000*(n:Int) - 30500≤l∧n≤10
def PB (n:Nat) (deep k l:Int):Prop:=deep≤(n:Int)∧0≤k∧k+4*l≤999 - 10*(n:Int)∧2000*(n:Int) - 29000≤l∧n≤10
def PS (n:Nat) (deep k l:Int):Prop:=deep≤(n:Int)∧0≤k∧k+4*l≤1000 - 10*(n:Int)∧2000*(n:Int) - 30000≤l∧n≤10
def BT (n:Nat) (deep k l:Int) (s t:Nat) (k' l':Int):Prop:=(s:Int)=l - l'∧t≤n+2∧k'+4*l'≤k+4*l∧k≤k'∧(l≤0→l - 1≤l')∧(0<l→ -(16*(n:Int)+1)≤l')∧(deep<1→t=1)
def BB (n:Nat) (k l:Int) (s t:Nat) (k' l':Int):Prop:=(s:Int)=l - l'∧t≤n+2∧k'+4*l'≤k+4*l+1∧k≤k'∧(l≤0→l - 6≤l')∧(0<l→ -(16*(n:Int)+5)≤l')
def BS (n:Nat) (k l:Int) (s t:Nat) (k' l':Int):Prop:=(s:Int)=l - l'∧t≤n+2∧k'+4*l'≤k+4*l∧k≤k'∧(l≤0→l - 2≤l')∧(0<l→ -(16*(n:Int)+1)≤l')
section
variable {n m i s s1 s2 s3 t t1 t2 t3:Nat} {deep k l k1 l1 k2 l2 k3 l3 k' l':Int}
theorem Zd {a b c:Int} {x y:Nat} (h:(x:Int)=a - b) (g:(y:Int)=b - c):((x+y:Nat):Int)=a - c:=⋯
theorem Ze {a c:Int} {x:Nat} (h:(x:Int)=a - 1 - c):((x+1:Nat):Int)=a - c:=⋯
theorem kl3 {a:Int} (h:a≤k+1+4*(l - 1)):a≤k+4*l - 3:=⋯
theorem ge3 {a b:Int} (h:a≤b - 3):a≤b:=⋯
theorem le1 {a b:Int} (h:a+1≤b):a≤b:=⋯
def BI (n:Nat) (k l:Int) (i:Nat) (s t:Nat) (k' l':Int):Prop:=(s:Int)=l - l'∧t≤n+2∧k'+4*l'≤k+1+4*l∧k+1≤k'∧(l≤0→l - 2*i≤l')∧(0<l→ -(16*(n:Int)+1) - 2*i≤l' - 2)
theorem BI.nil:BI n k l 0 0 0 (k+1) l:=⟨(Int.sub_self l).symm,Bm _,Eb _,Eb _,⋯,⋯⟩
theorem BI.pre (p:PB n deep k l) (h:BI n k l i s t k' l') (hi:i<3):PS n deep k' l':=by
 obtain ⟨p1,p2,p3,p4,p5⟩:=p;obtain ⟨_,_,h3,h4,h5,h6⟩:=h;exact ⟨p1,B7 p2 (le1 h4),by clear p4 h5 h6;omega,by clear p3 h3 h4;omega,p5⟩
theorem BI.snoc (h:BI n k l i s t k' l') (b:BS n k' l' s2 t2 k2 l2):BI n k l (i+1) (s+s2) (max t t2) k2 l2:=by
 obtain ⟨h1,h2,h3,h4,h5,h6⟩:=h;obtain ⟨b1,b2,b3,b4,b5,b6⟩:=b;refine ⟨Zd h1 b1,Dk.mpr ⟨h2,b2⟩,B7 b3 h3,B7 h4 b4,?_,?_⟩
 all_goals clear h2 h3 h4 b1 b2 b3 b4;omega
theorem BI.out (h:BI n k l i s t k' l') (hi:i≤3):BB n k l s t k' l':=by
 obtain ⟨h1,h2,h3,h4,h5,h6⟩:=h;refine ⟨h1,h2,by clear h5 h6;omega,le1 h4,?_,?_⟩
 all_goals clear h1 h2 h3 h4;omega
def S (n:Nat) (deep k l:Int):Prop:=deep - 1≤(n:Int)∧0≤k∧k+4*l - 3≤987 - 10*(n:Int)∧0≤l - 1∧1≤deep∧n≤9
theorem BT.one:BT n deep k l 1 1 (k+1) (l - 1):=⟨⋯,Nat.le_add_left 1 (n+1),⋯,⋯,fun _=>Eb _,⋯,fun _=>rfl⟩
def Mid (n:Nat) (k1 l1:Int):Prop:=0≤k1∧k1+4*l1≤987 - 10*(n:Int)∧ -200≤l1
theorem Mid.pb (c:Mid n k1 l1) (h1:deep - 1≤(n:Int)) (h6:n≤9):PB n (deep - 1) k1 l1:=by
 obtain ⟨c1,c2,c3⟩:=c;exact ⟨h1,c1,⋯,⋯,C7 h6⟩
theorem PB.pt (c:PB n deep k l):PT n deep k l:=by
 obtain ⟨c1,c2,c3,c4,c5⟩:=c;exact ⟨c1,c2,⋯,⋯,c5⟩
theorem S.pb (h:S n deep k l):PB n (deep - 1) (k+1) (l - 1):=by
 obtain ⟨h1,h2,h3,h4,_,h6⟩:=h;exact Mid.pb ⟨⋯,⋯,⋯⟩ h1 h6
theorem S.pt (h:S n deep k l):PT n (deep - 1) (k+1) (l - 1):=h.pb.pt
theorem low {a:Int} (h:0≤l) (b:l≤0→l - 1≤a) (c:0<l→ -(16*(n:Int)+1)≤a): -(16*(n:Int)+1)≤a:=⋯
theorem S.low (h:S n deep k l) (b:BT n (deep - 1) (k+1) (l - 1) s1 t1 k1 l1): -(16*(n:Int)+1)≤l1:=Bud.low h.2.2.2.1 b.2.2.2.2.1 b.2.2.2.2.2.1
theorem S.mid (h:S n deep k l) (b:BT n (deep - 1) (k+1) (l - 1) s1 t1 k1 l1):Mid n k1 l1:=by
 have c:=h.low b;have h6:=h.2.2.2.2.2;exact ⟨B7 h.2.1 (le1 b.2.2.2.1),B7 (kl3 b.2.2.1) h.2.2.1,⋯⟩
theorem S.pb1 (h:S n deep k l) (b:BT n (deep - 1) (k+1) (l - 1) s1 t1 k1 l1):PB n (deep - 1) k1 l1:=(h.mid b).pb h.1 h.2.2.2.2.2
theorem S.pt1 (h:S n deep k l) (b:BT n (deep - 1) (k+1) (l - 1) s1 t1 k1 l1):PT n (deep - 1) k1 l1:=(h.pb1 b).pt
theorem no0 {P:Prop} (h:0≤l - 1) (g:l≤0):P:=⋯
theorem no1 {P:Prop} (h:1≤deep) (g:deep<1):P:=absurd h (Int.not_le.mpr g)
theorem two_ (z: -(16*(n:Int)+1)≤l1) (c:l1≤0→l1 - 1≤l2) (c':0<l1→ -(16*(n:Int)+1)≤l2): -(16*((n+1:Nat):Int)+1)≤l2:=⋯
theorem S.two (h:S n deep k l) (b:BT n (deep - 1) (k+1) (l - 1) s1 t1 k1 l1) (c:BT n (deep - 1) k1 l1 s2 t2 k2 l2):BT (n+1) deep k l (s1+s2+1) (max t1 t2+1) k2 l2:=
 ⟨Ze (Zd b.1 c.1),Cu (Dk.mpr ⟨b.2.1,c.2.1⟩),ge3 (B7 c.2.2.1 (kl3 b.2.2.1)),le1 (B7 b.2.2.2.1 c.2.2.2.1),fun g=>no0 h.2.2.2.1 g,fun _=>two_ (h.low b) c.2.2.2.2.1 c.2.2.2.2.2.1,no1 h.2.2.2.2.1⟩
theorem fn_ (b:l - 1≤0→l - 1 - 6≤l1) (c:0<l - 1→ -(16*(n:Int)+5)≤l1) (h:0≤l - 1): -(16*((n+1:Nat):Int)+1)≤l1:=⋯
theorem S.fn (h:S n deep k l) (b:BB n (k+1) (l - 1) s1 t1 k1 l1):BT (n+1) deep k l (s1+1) (t1+1) k1 l1:=
 ⟨Ze b.1,Cu b.2.1,by have:=b.2.2.1;omega,le1 b.2.2.2.1,fun g=>no0 h.2.2.2.1 g,fun _=>fn_ b.2.2.2.2.1 b.2.2.2.2.2 h.2.2.2.1,no1 h.2.2.2.2.1⟩
def CI (n:Nat) (k l:Int) (s1 i s t:Nat) (k' l':Int):Prop:=((s1+s:Nat):Int)=l - 1 - l'∧t≤n+2∧k'+4*l'≤k+4*l - 3∧k+1≤k'∧ -(16*(n:Int)+1) - i≤l'
theorem CI.nil (h:S n deep k l) (b:BT n (deep - 1) (k+1) (l - 1) s1 t1 k1 l1):CI n k l s1 0 0 0 k1 l1:=⟨b.1,Bm _,kl3 b.2.2.1,b.2.2.2.1,by have:=h.low b;omega⟩
theorem CI.pre (h:S n deep k l) (c:CI n k l s1 i s t k' l') (hi:i≤4):PT n (deep - 1) k' l':=by
 have h6:=h.2.2.2.2.2;have c5:=c.2.2.2.2;exact (Mid.pb (⟨B7 h.2.1 (le1 c.2.2.2.1),B7 c.2.2.1 h.2.2.1,⋯⟩:Mid n k' l') h.1 h6).pt
theorem CI.snoc (c:CI n k l s1 i s t k' l') (b:BT n (deep - 1) k' l' s2 t2 k2 l2):CI n k l s1 (i+1) (s+s2) (max t t2) k2 l2:=
 ⟨by rw [← Ez];exact Zd c.1 b.1,Dk.mpr ⟨c.2.1,b.2.1⟩,B7 b.2.2.1 c.2.2.1,B7 c.2.2.2.1 b.2.2.2.1,by
  have c5:=c.2.2.2.2;have b5:=b.2.2.2.2.1;have b6:=b.2.2.2.2.2.1;omega⟩
theorem CI.out (h:S n deep k l) (b:BT n (deep - 1) (k+1) (l - 1) s1 t1 k1 l1) (c:CI n k l s1 i s t k' l') (hi:i≤4):BT (n+1) deep k l (s1+s+1) (max t1 t+1) k' l':=
 ⟨Ze c.1,Cu (Dk.mpr ⟨b.2.1,c.2.1⟩),ge3 c.2.2.1,le1 c.2.2.2.1,fun g=>no0 h.2.2.2.1 g,fun _=>by have c5:=c.2.2.2.2;omega,no1 h.2.2.2.2.1⟩
def Near (n m:Nat):Prop:=m≤n∧(n=0∨n=m+1)
theorem PS.pt (p:PS n deep k l) (z:Near n m):PT m (deep - 1) (k+1) (l - 1):=by
 obtain ⟨p1,p2,p3,p4,p5⟩:=p;obtain ⟨z1,z2⟩:=z;exact ⟨by clear p3 p4;omega,⋯,by clear p1 p4;omega,by clear p1 p3;omega,Aw z1 p5⟩
theorem PS.one (p:PS n deep k l) (z:Near n m) (b:BT m (deep - 1) (k+1) (l - 1) s1 t1 k1 l1):BS n k l (s1+1) (t1+1) k1 l1:=by
 obtain ⟨p1,_,_,_,_⟩:=p;obtain ⟨z1,z2⟩:=z;obtain ⟨b1,b2,b3,b4,b5,b6,b7⟩:=b;exact ⟨Ze b1,by clear b1 b3 b4 b5 b6;omega,ge3 (kl3 b3),le1 b4,fun g=>by clear b1 b2 b3 b4 b6 b7;omega,fun g=>by clear b1 b2 b3 b4 b7 p1;omega⟩
theorem PS.many (p:PS (n+1) deep k l) (h:0≤l - 1) (d:1≤deep):S n deep k l:=by
 obtain ⟨p1,p2,p3,_,p5⟩:=p;exact ⟨⋯,p2,⋯,h,d,Nat.le_of_succ_le_succ p5⟩
theorem PT.many (p:PT (n+1) deep k l) (h:0≤l - 1) (d:1≤deep):S n deep k l:=by
 obtain ⟨p1,p2,p3,_,p5⟩:=p;exact ⟨⋯,p2,⋯,h,d,Nat.le_of_succ_le_succ p5⟩
theorem wh_ {a:Int} (h:a≤k1+4*l1+1) (g:k1+4*l1≤k+4*l - 3):a≤k+4*l - 2:=⋯
theorem ge2 {a b:Int} (h:a≤b - 2):a≤b:=⋯
theorem bb_ (z: -(16*(n:Int)+1)≤l1) (c:l1≤0→l1 - 6≤l2) (c':0<l1→ -(16*(n:Int)+5)≤l2): -(16*(n:Int)+7)≤l2:=⋯
theorem bb2_ (z: -(16*(n:Int)+7)≤l1) (c:l1≤0→l1 - 6≤l2) (c':0<l1→ -(16*(n:Int)+5)≤l2): -(16*((n+1:Nat):Int)+1)≤l2:=⋯
theorem wh2_ {a:Int} (h:a≤k1+4*l1+1) (g:k1+4*l1≤k+4*l - 2):a≤k+4*l:=⋯
theorem S.wh (h:S n deep k l) (b:BT n (deep - 1) (k+1) (l - 1) s1 t1 k1 l1) (c:BB n k1 l1 s2 t2 k2 l2):BS (n+1) k l (s1+s2+1) (max t1 t2+1) k2 l2:=
 ⟨Ze (Zd b.1 c.1),Cu (Dk.mpr ⟨b.2.1,c.2.1⟩),ge2 (wh_ c.2.2.1 (kl3 b.2.2.1)),le1 (B7 b.2.2.2.1 c.2.2.2.1),fun g=>no0 h.2.2.2.1 g,fun _=>by have:=bb_ (h.low b) c.2.2.2.2.1 c.2.2.2.2.2;omega⟩
theorem S.pb2 (h:S n deep k l) (b:BT n (deep - 1) (k+1) (l - 1) s1 t1 k1 l1) (c:BB n k1 l1 s2 t2 k2 l2):PB n (deep - 1) k2 l2:=by
 have z:=bb_ (h.low b) c.2.2.2.2.1 c.2.2.2.2.2;have w:=wh_ c.2.2.1 (kl3 b.2.2.1);have h3:=h.2.2.1;have h6:=h.2.2.2.2.2;exact ⟨h.1,B7 (B7 h.2.1 (le1 b.2.2.2.1)) c.2.2.2.1,by clear z;omega,by clear w h3;omega,C7 h6⟩
theorem S.if_ (h:S n deep k l) (b:BT n (deep - 1) (k+1) (l - 1) s1 t1 k1 l1) (c:BB n k1 l1 s2 t2 k2 l2) (e:BB n k2 l2 s3 t3 k3 l3):BS (n+1) k l (s1+(s2+s3)+1) (max t1 (max t2 t3)+1) k3 l3:=
 ⟨Ze (Zd b.1 (Zd c.1 e.1)),Cu (Dk.mpr ⟨b.2.1,Dk.mpr ⟨c.2.1,e.2.1⟩⟩),wh2_ e.2.2.1 (wh_ c.2.2.1 (kl3 b.2.2.1)),le1 (B7 (B7 b.2.2.2.1 c.2.2.2.1) e.2.2.2.1),fun g=>no0 h.2.2.2.1 g,
  fun _=>bb2_ (bb_ (h.low b) c.2.2.2.2.1 c.2.2.2.2.2) e.2.2.2.2.1 e.2.2.2.2.2⟩
theorem S.one (h:S n deep k l) (b:BT n (deep - 1) (k+1) (l - 1) s1 t1 k1 l1):BS (n+1) k l (s1+1) (t1+1) k1 l1:=by
 have z:=h.low b;exact ⟨Ze b.1,Cu b.2.1,ge3 (kl3 b.2.2.1),le1 b.2.2.2.1,fun g=>no0 h.2.2.2.1 g,fun _=>⋯⟩
def TI (n:Nat) (k l:Int) (i s:Nat) (k' l':Int):Prop:=(s:Int)=l - 1 - l'∧k'+4*l'≤k+4*l - 3+i∧k+1≤k'∧ -(16*(n:Int) - 1) - 6*(i:Int)≤l'
theorem TI.nil (h:S n deep k l) (hn:1≤n):TI n k l 0 0 (k+1) (l - 1):=⟨(Int.sub_self _).symm,⋯,Eb _,by have:=h.2.2.2.1;omega⟩
theorem TI.pre (h:S n deep k l) (c:TI n k l i s k' l') (hi:i<3):PB n (deep - 1) k' l':=by
 have h3:=h.2.2.1;have h6:=h.2.2.2.2.2;have c2:=c.2.1;have c4:=c.2.2.2;exact ⟨h.1,B7 h.2.1 (le1 c.2.2.1),by clear c4;omega,by clear c2 h3;omega,C7 h6⟩
theorem TI.snoc (c:TI n k l i s k' l') (b:BB n k' l' s2 t2 k2 l2):TI n k l (i+1) (s+s2) k2 l2:=by
 have c2:=c.2.1;have c4:=c.2.2.2;have b3:=b.2.2.1;have b5:=b.2.2.2.2.1;have b6:=b.2.2.2.2.2;exact ⟨Zd c.1 b.1,by clear c4 b5 b6;omega,B7 c.2.2.1 b.2.2.2.1,by clear c2 b3;omega⟩
theorem TI.out (h:S n deep k l) (c:TI n k l 3 s k' l') (e:s1+(s2+s3)=s) (e1:t1≤n+2) (e2:t2≤n+2) (e3:t3≤n+2):BS (n+1) k l (s1+(s2+s3)+1) (max t1 (max t2 t3)+1) k' l':=by
 subst e;have c2:=c.2.1;have c4:=c.2.2.2;exact ⟨Ze c.1,Cu (Dk.mpr ⟨e1,Dk.mpr ⟨e2,e3⟩⟩),by clear c4;omega,le1 c.2.2.1,fun g=>no0 h.2.2.2.1 g,fun _=>by clear c2;omega⟩
def WI (l0:Int) (d m s t:Nat) (k' l':Int):Prop:=d+m=6∧(s:Int)=l0 - l'∧t≤9∧0≤k'∧k'+4*l'≤160+d∧ -113≤l'
theorem WI.nil (h:0≤l) (h':l≤40):WI l 0 6 0 0 0 l:=⟨rfl,⋯,⋯,⋯,⋯,⋯⟩
theorem WI.pre (h:WI l i m s t k' l') (h0:deep≤7):PS 7 deep (k'+1) l':=by
 obtain ⟨h1,_,_,h4,h5,h6⟩:=h;exact ⟨h0,⋯,⋯,⋯,O0⟩
theorem WI.snoc (h:WI l i m s t k' l') (h0:0<l') (hi:i<6) (b:BS 7 (k'+1) l' s2 t2 k2 l2):WI l (i+1) (m - 1) (s+s2) (max t t2) k2 l2:=by
 obtain ⟨h1,h2,h3,h4,h5,_⟩:=h;obtain ⟨b1,b2,b3,b4,_,b6⟩:=b;exact ⟨by clear h2 h5 b1 b3;omega,Zd h2 b1,Dk.mpr ⟨h3,b2⟩,B7 h4 (le1 b4),by clear h1 h2 b1 b4;omega,b6 h0⟩
end
end Bud
namespace Tre
open PySem
def qG (x:Str):Bool:=decide (1≤x.length)&&decide (x.length≤8)&&x.cps.toList.all fun c=>decide (97≤c)&&decide (c≤122)
def jP (i:Int):Bool:=decide (-1000000000000≤i)&&decide (i≤1000000000000)
def qY:Aa→Bool
 | .str x=>qG x
 | _=>false
def zZ:Aa→Bool
 | .int i=>jP i
 | _=>false
def JK (d:Aa) (most:Nat):Bool:=match d with
 | .tuple xs=>decide (xs.length≤most)
 | _=>false
def txt:Aa→Str
 | .str x=>x
 | _=>""
def areNames:Aa→Bool
 | .tuple xs=>decide (xs.length≤4)&&xs.all qY&&decide ((xs.map txt).Nodup)
 | _=>false
abbrev signs:List Str:=["+","-","*","<","="]
abbrev forms:List (Str×List Str):=[("main",["names","body"]),("number",["number"]),("name",["name"]),("two",["sign","term","term"]),("fun",["names","body"]),("loop",["names","body"]),("call",["term","terms"]),("step",["term","term"]),
 ("let",["name","term"]),("set",["name","term"]),("do",["term"]),("if",["term","body","body"]),("while",["term","body"]),("hand",["term"]),("back",["term"]),("fault",["word","term"]),("try",["body","name","name","body","body"])]
abbrev heads:List (Str×List Str):=[("program",["main"]),("term",["number","name","two","fun","loop","call","step"]),("statement",["let","set","do","if","while","hand","back","fault","try"])]
abbrev members:List (Str×Str):=[("names","name"),("terms","term"),("body","statement")]
def qi (d:Aa) (sh:Str):Bool:=
 if sh=="number" then zZ d else if sh=="name" then qY d else if sh=="word" then (match d with | .str x=>qG x&&x !="any" | _=>false)
 else if sh=="sign" then (match d with | .str x=>signs.any fun y=>y==x | _=>false) else if sh=="names" then areNames d else if sh=="terms" then JK d 4 else if sh=="body" then JK d 12 else true
def zu (ts:List Aa) (fs:List Str):Bool:=decide (ts.length=fs.length)&&(ts.zip fs).all fun p=>qi p.1 p.2
def qQ (d:Aa) (sh:Str) (hands:Bool):Bool:=match d with
 | .tuple (.str h::ts)=>(((heads.lookup sh).getD []).any fun y=>y==h)&&!(h=="hand"&&!hands)&&zu ts ((forms.lookup h).getD [])
 | _=>false
def qm (t:Aa) (sh:Str):List (Aa×Str):=
 if sh=="term" then [(t,sh)] else if sh=="terms"||sh=="body" then (match t with | .tuple xs=>xs.map fun x=>(x,(members.lookup sh).getD "") | _=>[]) else []
def jx:Aa→List (Aa×Str)
 | .tuple (.str h::ts)=>(ts.zip ((forms.lookup h).getD [])).flatMap fun p=>qm p.1 p.2
 | _=>[]
def headOf:Aa→Str
 | .tuple (.str h::_)=>h
 | _=>""
def Jg (d:Aa) (hands:Bool):Bool:=if headOf d=="fun" then false else hands||(headOf d=="main"||headOf d=="loop")
abbrev Lv:=List (Aa×Str×Bool)
def vp (lv:Lv):Lv:=lv.flatMap fun p=>(jx p.1).map fun q=>(q.1,q.2,Jg p.1 p.2.2)
def WA:Nat→Nat→Lv→Bool
 | 0,_,lv=>lv.isEmpty
 | n+1,size,lv=>lv.isEmpty||(decide (size+lv.length≤300)&&(lv.all fun p=>qQ p.1 p.2.1 p.2.2)&&WA n (size+lv.length) (vp lv))
def zJ (d:Aa):Bool:=WA 20 0 [(d,"program",false)]
mutual
def fit:Aa→Bool
 | .str x=>decide (x.length≤1000000)
 | .list xs=>Jj xs
 | .tuple xs=>Jj xs
 | .dict _=>false
 | _=>true
def Jj:List Aa→Bool
 | []=>true
 | x::xs=>fit x&&Jj xs
end
theorem JC:∀ {xs:List Aa},Jj xs=true→∀ x∈xs,fit x=true
 | [],_,x,hx=>nomatch hx
 | y::r,h,x,hx=>by
  rw [Jj,Al] at h;rcases Ap.mp hx with rfl | hx
  ·exact h.1
  ·exact JC h.2 x hx
theorem YR:∀ {xs:List Aa},(∀ x∈xs,fit x=true)→Jj xs=true
 | [],_=>rfl
 | y::r,h=>by
  rw [Jj,Al];exact ⟨h y Au,YR fun x hx=>h x (Ao _ hx)⟩
theorem ZL:∀ sh∈heads,∀ h∈sh.2,∃ fs,forms.lookup h=some fs∧fs.length≤5:=by
 intro sh hs h hh;have:∀ sh∈heads,∀ h∈sh.2,((forms.lookup h).any fun fs=>decide (fs.length≤5))=true:=∅;have q:=this sh hs h hh;cases e:forms.lookup h with
 | none=>rw [e] at q;cases q
 | some fs=>rw [e] at q;exact ⟨fs,rfl,A3 q⟩
theorem YL {sh h:Str} (q:(((heads.lookup sh).getD []).any fun y=>y==h)=true):∃ l,heads.lookup sh=some l∧h∈l∧∃ fs,forms.lookup h=some fs∧fs.length≤5:=by
 cases e:heads.lookup sh with
 | none=>rw [e] at q;cases q
 | some l=>
  rw [e] at q;obtain ⟨y,hy,hyh⟩:=C4.mp q;cases Az.mp hyh;exact ⟨l,rfl,hy,ZL (sh,l) (A5 e) _ hy⟩
theorem qK {d:Aa} {sh:Str} {hands:Bool} (h:qQ d sh hands=true):
  ∃ hd ts fs l,d= .tuple (.str hd::ts)∧heads.lookup sh=some l∧hd∈l∧forms.lookup hd=some fs∧fs.length≤5∧ts.length=fs.length∧(∀ p∈ts.zip fs,qi p.1 p.2=true)∧(hd=="hand"&&!hands)=false:=by
 cases d with
 | tuple xs=>
  cases xs with
  | nil=>cases h
  | cons x ts=>
   cases x with
   | str hd=>
    simp only [qQ,zu,Al,Bool.not_eq_true',Bk] at h;obtain ⟨⟨h1,h2⟩,h3,h4⟩:=h;obtain ⟨l,e1,e2,fs,e3,e4⟩:=YL h1;rw [e3] at h3 h4;exact ⟨hd,ts,fs,l,rfl,e1,e2,e3,e4,h3,fun p hp=>A4.mp h4 p hp,h2⟩
   | _=>cases h
 | _=>cases h
set_option tactic.hygienic true in
theorem QN {t:Aa} {sh:Str} (h:qi t sh=true):(qm t sh).length≤12:=by
 unfold qm;split
 ·simp
 ·split
  ·rename_i h1 h2;cases t with
   | tuple xs=>
    rw [Ah];rw [Bt,Az,Az] at h2;rcases h2 with rfl | rfl
    ·have:JK (.tuple xs) 4=true:=h;have:=A3 this;omega
    ·have:JK (.tuple xs) 12=true:=h;exact A3 this
   | _=>simp
  ·simp
theorem Wt {α β:Type} (f:α→List β) (m:Nat):∀ l:List α,(∀ x∈l,(f x).length≤m)→(l.flatMap f).length≤m*l.length
 | [],_=>by simp
 | x::r,h=>by
  rw [Cv,Ak,Aj,Nat.mul_succ];have h1:=h x Au;have h2:=Wt f m r fun y hy=>h y (Ao _ hy);omega
theorem ZI {d:Aa} {sh:Str} {hands:Bool} (h:qQ d sh hands=true):(jx d).length≤60:=by
 obtain ⟨hd,ts,fs,l,rfl,_,_,e,hf,hl,hs,_⟩:=qK h;show ((ts.zip ((forms.lookup hd).getD [])).flatMap _).length≤60;rw [e];show ((ts.zip fs).flatMap _).length≤60;have:=Wt (fun p:Aa×Str=>qm p.1 p.2) 12 (ts.zip fs) fun p hp=>QN (hs p hp);rw [Dd] at this;omega
theorem ZV {lv:Lv} (h:∀ p∈lv,qQ p.1 p.2.1 p.2.2=true):(vp lv).length≤60*lv.length:=
 Wt _ 60 lv fun p hp=>by rw [Ah];exact ZI (h p hp)
set_option tactic.hygienic true in
theorem XC {t e:Aa} {sh u:Str} (h:(e,u)∈qm t sh):u="term"∨u="statement":=by
 unfold qm at h;split at h
 ·rename_i h1;rw [A0] at h;cases h;exact .inl (Az.mp h1)
 ·split at h
  ·rename_i h2;cases t with
   | tuple xs=>
    obtain ⟨x,_,ex⟩:=Bo.mp h;rw [Bt,Az,Az] at h2;cases ex;rcases h2 with rfl | rfl
    ·exact .inl rfl
    ·exact .inr rfl
   | _=>cases h
  ·cases h
theorem QM {d e:Aa} {u:Str} (h:(e,u)∈jx d):u="term"∨u="statement":=by
 unfold jx at h;split at h
 ·obtain ⟨p,_,hp⟩:=Ct.mp h;exact XC hp
 ·cases h
theorem ZJ {t e:Aa} {sh u:Str} (ft:fit t=true) (h:(e,u)∈qm t sh):fit e=true:=by
 unfold qm at h;split at h
 ·rw [A0] at h;cases h;exact ft
 ·split at h
  ·cases t with
   | tuple xs=>
    obtain ⟨x,hx,ex⟩:=Bo.mp h;rw [fit] at ft;have q:=JC ft x hx;cases ex;exact q
   | _=>cases h
  ·cases h
set_option tactic.hygienic true in
theorem qb6 {d e:Aa} {u:Str} (f:fit d=true) (h:(e,u)∈jx d):fit e=true:=by
 unfold jx at h;split at h
 ·rename_i hd ts;obtain ⟨p,hz,hp⟩:=Ct.mp h;rw [fit,Jj,Al] at f;exact ZJ (JC f.2 p.1 (C0 hz).1) hp
 ·cases h
theorem Jn (d:Aa):qi d "number"=zZ d:=by
 unfold qi;rw [if_pos (show (((("number":Str)=="number")=true)) from ∅)]
theorem jl (d:Aa):qi d "name"=qY d:=by
 unfold qi;rw [if_neg (show ¬ (((("name":Str)=="number")=true)) from ∅)];rw [if_pos (show (((("name":Str)=="name")=true)) from ∅)]
theorem J4 (d:Aa):qi d "word"=(match d with | .str x=>qG x&&x !="any" | _=>false):=by
 unfold qi;rw [if_neg (show ¬ (((("word":Str)=="number")=true)) from ∅)];rw [if_neg (show ¬ (((("word":Str)=="name")=true)) from ∅)];rw [if_pos (show (((("word":Str)=="word")=true)) from ∅)]
theorem J5 (d:Aa):qi d "sign"=(match d with | .str x=>signs.any fun y=>y==x | _=>false):=by
 unfold qi;rw [if_neg (show ¬ (((("sign":Str)=="number")=true)) from ∅)];rw [if_neg (show ¬ (((("sign":Str)=="name")=true)) from ∅)];rw [if_neg (show ¬ (((("sign":Str)=="word")=true)) from ∅)];rw [if_pos (show (((("sign":Str)=="sign")=true)) from ∅)]
theorem Ja (d:Aa):qi d "names"=areNames d:=by
 unfold qi;rw [if_neg (show ¬ (((("names":Str)=="number")=true)) from ∅)];rw [if_neg (show ¬ (((("names":Str)=="name")=true)) from ∅)];rw [if_neg (show ¬ (((("names":Str)=="word")=true)) from ∅)];rw [if_neg (show ¬ (((("names":Str)=="sign")=true)) from ∅)];rw [if_pos (show (((("names":Str)=="names")=true)) from ∅)]
theorem j9 (d:Aa):qi d "terms"=JK d 4:=by
 unfold qi;rw [if_neg (show ¬ (((("terms":Str)=="number")=true)) from ∅)];rw [if_neg (show ¬ (((("terms":Str)=="name")=true)) from ∅)];rw [if_neg (show ¬ (((("terms":Str)=="word")=true)) from ∅)];rw [if_neg (show ¬ (((("terms":Str)=="sign")=true)) from ∅)];rw [if_neg (show ¬ (((("terms":Str)=="names")=true)) from ∅)];rw [if_pos (show (((("terms":Str)=="terms")=true)) from ∅)]
theorem jD (d:Aa):qi d "body"=JK d 12:=by
 unfold qi;rw [if_neg (show ¬ (((("body":Str)=="number")=true)) from ∅)];rw [if_neg (show ¬ (((("body":Str)=="name")=true)) from ∅)];rw [if_neg (show ¬ (((("body":Str)=="word")=true)) from ∅)];rw [if_neg (show ¬ (((("body":Str)=="sign")=true)) from ∅)];rw [if_neg (show ¬ (((("body":Str)=="names")=true)) from ∅)];rw [if_neg (show ¬ (((("body":Str)=="terms")=true)) from ∅)];rw [if_pos (show (((("body":Str)=="body")=true)) from ∅)]
theorem WO (d:Aa) {sh:Str} (h0:(sh=="number")=false) (h1:(sh=="name")=false) (h2:(sh=="word")=false) (h3:(sh=="sign")=false) (h4:(sh=="names")=false) (h5:(sh=="terms")=false) (h6:(sh=="body")=false):qi d sh=true:=by
 unfold qi;rw [if_neg (by rw [h0];exact Ai)]
 rw [if_neg (by rw [h1];exact Ai)]
 rw [if_neg (by rw [h2];exact Ai)]
 rw [if_neg (by rw [h3];exact Ai)]
 rw [if_neg (by rw [h4];exact Ai)]
 rw [if_neg (by rw [h5];exact Ai)]
 rw [if_neg (by rw [h6];exact Ai)]
def jY (d:Aa):List Aa:=(jx d).map (·.1)
mutual
inductive Tr:Aa→Nat→Nat→Prop
 | mk {d:Aa} {sh:Str} {hands:Bool} {s t:Nat}:qQ d sh hands=true→Trl (jY d) s t→Tr d (s+1) (t+1)
inductive Trl:List Aa→Nat→Nat→Prop
 | nil:Trl [] 0 0
 | cons {d:Aa} {ds:List Aa} {s t s' t':Nat}:Tr d s t→Trl ds s' t'→Trl (d::ds) (s+s') (max t t')
end
theorem Trl.append:∀ {a b:List Aa} {s t s' t':Nat},Trl a s t→Trl b s' t'→Trl (a++b) (s+s') (max t t'):=by
 intro a
 induction a with
 | nil=>
  intro b s t s' t' h h';cases h;simpa using h'
 | cons d r ih=>
  intro b s t s' t' h h';cases h with
  | cons h1 h2=>
   have:=Trl.cons h1 (ih h2 h');rw [Cc,Ez,Nat.max_assoc];exact this
theorem qan (a:Nat):∀ b:Nat,max a (b - 1)=max (a+1) b - 1
 | 0=>by simp
 | b+1=>by
  rw [Nat.add_max_add_right];rfl
theorem Trl.lower:∀ {ds:List Aa} {s t:Nat},Trl ds s t→∃ s',Trl (ds.flatMap jY) s' (t - 1)∧s=ds.length+s':=by
 intro ds
 induction ds with
 | nil=>
  intro s t h;cases h;exact ⟨0,.nil,rfl⟩
 | cons d r ih=>
  intro s t h;cases h with
  | @cons _ _ s1 t1 s2 t2 h1 h2=>
   cases h1 with
   | @mk _ sh hands s0 t0 hf hk=>
    obtain ⟨s',h3,e⟩:=ih h2;refine ⟨s0+s',?_,?_⟩
    ·rw [Cv];have e2:max t0 (t2 - 1)=max (t0+1) t2 - 1:=qan _ _;rw [← e2];exact hk.append h3
    ·rw [Aj];omega
theorem Trl.zero {ds:List Aa} {s:Nat} (h:Trl ds s 0):ds=[]:=by
 cases ds with
 | nil=>rfl
 | cons d r=>
  generalize e:0=n at h;cases h with
  | cons h1 h2=>
   cases h1;omega
theorem Trl.forms:∀ {ds:List Aa} {s t:Nat},Trl ds s t→∀ d∈ds,∃ sh hands,qQ d sh hands=true:=by
 intro ds
 induction ds with
 | nil=>intro s t _ d hd;cases hd
 | cons e r ih=>
  intro s t h d hd;cases h with
  | cons h1 h2=>
   rcases Ap.mp hd with rfl | hd
   ·cases h1 with
    | mk hf _=>exact ⟨_,_,hf⟩
   ·exact ih h2 d hd
theorem Trl.few {ds:List Aa} {s t:Nat} (h:Trl ds s t):ds.length≤s:=by
 obtain ⟨s',_,e⟩:=h.lower;omega
mutual
theorem Tr.deep:∀ {d:Aa} {s t:Nat},Tr d s t→t≤s
 | _,_,_,.mk _ h=>Cu (Trl.deep h)
theorem Trl.deep:∀ {ds:List Aa} {s t:Nat},Trl ds s t→t≤s
 | _,_,_,.nil=>Ax _
 | _,_,_,.cons h1 h2=>by
  have a:=Tr.deep h1;have b:=Trl.deep h2;omega
end
mutual
inductive Pt:Aa→Str→Bool→Nat→Nat→Prop
 | mk {d:Aa} {sh:Str} {hands:Bool} {s t:Nat}:qQ d sh hands=true→Ptl (jx d) (Jg d hands) s t→Pt d sh hands (s+1) (t+1)
inductive Ptl:List (Aa×Str)→Bool→Nat→Nat→Prop
 | nil {hands:Bool}:Ptl [] hands 0 0
 | cons {d:Aa} {sh:Str} {r:List (Aa×Str)} {hands:Bool} {s t s' t':Nat}:Pt d sh hands s t→Ptl r hands s' t'→Ptl ((d,sh)::r) hands (s+s') (max t t')
end
theorem Ptl.append:∀ {a b:List (Aa×Str)} {hands:Bool} {s t s' t':Nat},Ptl a hands s t→Ptl b hands s' t'→Ptl (a++b) hands (s+s') (max t t'):=by
 intro a
 induction a with
 | nil=>
  intro b hands s t s' t' h h';cases h;simpa using h'
 | cons d r ih=>
  intro b hands s t s' t' h h';cases h with
  | cons h1 h2=>
   have:=Ptl.cons h1 (ih h2 h');rw [Cc,Ez,Nat.max_assoc];exact this
mutual
theorem Pt.tr:∀ {d:Aa} {sh:Str} {hands:Bool} {s t:Nat},Pt d sh hands s t→Tr d s t
 | _,_,_,_,_,.mk hf h=> .mk hf (Ptl.tr h)
theorem Ptl.tr:∀ {l:List (Aa×Str)} {hands:Bool} {s t:Nat},Ptl l hands s t→Trl (l.map (·.1)) s t
 | _,_,_,_,.nil=> .nil
 | _,_,_,_,.cons h1 h2=> .cons (Pt.tr h1) (Ptl.tr h2)
end
inductive Lvl:Lv→Nat→Nat→Prop
 | nil:Lvl [] 0 0
 | cons {p:Aa×Str×Bool} {r:Lv} {s t s' t':Nat}:Pt p.1 p.2.1 p.2.2 s t→Lvl r s' t'→Lvl (p::r) (s+s') (max t t')
theorem Lvl.append:∀ {a b:Lv} {s t s' t':Nat},Lvl a s t→Lvl b s' t'→Lvl (a++b) (s+s') (max t t')
 | _,_,_,_,_,_,.nil,h=>by simpa using h
 | _,_,_,_,_,_,.cons h1 h2,h=>by
  have:=Lvl.cons h1 (Lvl.append h2 h);rw [Cc,Ez,Nat.max_assoc];exact this
theorem qjh:∀ {l:List (Aa×Str)} {hands:Bool} {s t:Nat},Ptl l hands s t→Lvl (l.map fun z=>(z.1,z.2,hands)) s t:=by
 intro l
 induction l with
 | nil=>intro hands s t h;cases h;exact .nil
 | cons z r ih=>
  intro hands s t h;cases h with
  | cons h1 h2=>exact .cons h1 (ih h2)
theorem Lvl.lower:∀ {lv:Lv} {s t:Nat},Lvl lv s t→∃ s',Lvl (Tre.vp lv) s' (t - 1)∧s=lv.length+s':=by
 intro lv
 induction lv with
 | nil=>intro s t h;cases h;exact ⟨0,.nil,rfl⟩
 | cons p r ih=>
  intro s t h;cases h with
  | @cons _ _ s1 t1 s2 t2 h1 h2=>
   obtain ⟨s',h3,e⟩:=ih h2;generalize e1:p.1=d at h1;generalize e2:p.2.1=sh at h1;generalize e3:p.2.2=hands at h1;cases h1 with
   | @mk _ _ _ s0 t0 hf hk=>
    refine ⟨s0+s',?_,?_⟩
    ·have e4:max t0 (t2 - 1)=max (t0+1) t2 - 1:=qan _ _;have e5:Tre.vp (p::r)=((jx d).map fun z=>(z.1,z.2,Jg d hands))++Tre.vp r:=by
      unfold Tre.vp;rw [Cv,e1,e3]
     rw [e5,← e4];exact (qjh hk).append h3
    ·rw [Aj];omega
theorem Lvl.forms:∀ {lv:Lv} {s t:Nat},Lvl lv s t→(lv.all fun p=>qQ p.1 p.2.1 p.2.2)=true:=by
 intro lv
 induction lv with
 | nil=>intro s t _;rfl
 | cons p r ih=>
  intro s t h;cases h with
  | cons h1 h2=>
   rw [D0,ih h2,Bool.and_true];cases h1 with
   | mk hf _=>exact hf
theorem Lvl.zero {lv:Lv} {s:Nat} (h:Lvl lv s 0):lv=[]:=by
 cases lv with
 | nil=>rfl
 | cons p r=>
  generalize e:0=n at h;cases h with
  | cons h1 h2=>
   cases h1;omega
theorem Wj:∀ (n sz:Nat) (lv:Lv) (s t:Nat),Lvl lv s t→t≤n→sz+s≤300→WA n sz lv=true
 | 0,sz,lv,s,t,h,hn,hz=>by
  have:t=0:=⋯;subst this;rw [h.zero];rfl
 | n+1,sz,lv,s,t,h,hn,hz=>by
  obtain ⟨s',h2,e⟩:=h.lower;rw [WA,Wj n (sz+lv.length) (Tre.vp lv) s' (t - 1) h2 ⋯ ⋯,h.forms,An ⋯];simp
theorem Js {d:Aa} {s t:Nat} (h:Pt d "program" false s t) (ht:t≤20) (hs:s≤300):zJ d=true:=
 Wj 20 0 _ s t (by simpa using Lvl.cons (p:=(d,"program",false)) h .nil) ht ⋯
theorem jC {h sh:Str} {l fs:List Str} {ts:List Aa} {hands:Bool} (e1:heads.lookup sh=some l) (e2:(l.any fun y=>y==h)=true) (e3:forms.lookup h=some fs) (e4:(h=="hand"&&!hands)=false) (e5:zu ts fs=true):qQ (.tuple (.str h::ts)) sh hands=true:=by
 simp only [qQ,e1,e3,Option.getD_some,e2,e4,e5,Bool.not_false,Bool.and_true]
theorem qN {h:Str} {fs:List Str} {ts:List Aa} (e:forms.lookup h=some fs):jx (.tuple (.str h::ts))=(ts.zip fs).flatMap fun p=>qm p.1 p.2:=by
 show (ts.zip ((forms.lookup h).getD [])).flatMap _=_;rw [e];rfl
theorem jj (t:Aa):qm t "term"=[(t,("term":Str))]:=by
 unfold qm;rw [if_pos ∅]
theorem zI (xs:List Aa):qm (.tuple xs) "body"=xs.map fun x=>(x,("statement":Str)):=by
 unfold qm;rw [if_neg ∅,if_pos ∅];have e:(members.lookup ("body":Str)).getD ""=("statement":Str):=∅;rw [e]
theorem yr (xs:List Aa):qm (.tuple xs) "terms"=xs.map fun x=>(x,("term":Str)):=by
 unfold qm;rw [if_neg ∅,if_pos ∅];have e:(members.lookup ("terms":Str)).getD ""=("term":Str):=∅;rw [e]
theorem jT {t:Aa} {sh:Str} (h:(sh=="term"||(sh=="terms"||sh=="body"))=false):qm t sh=[]:=by
 rw [De] at h;unfold qm;rw [if_neg (by rw [h.1];exact Ai),if_neg (by rw [h.2];exact Ai)]
theorem j4 (t:Aa):qi t "term"=true:=WO t ∅ ∅ ∅ ∅ ∅ ∅ ∅
structure Bd (xs:List Aa) (hands:Bool) (s t:Nat):Prop where
 few:xs.length≤12
 all:Ptl (xs.map fun x=>(x,("statement":Str))) hands s t
theorem J6 {xs:List Aa} (h:xs.length≤12):qi (.tuple xs) "body"=true:=by
 rw [jD];exact An h
theorem qdm {xs:List Aa} (h:xs.length≤4):qi (.tuple xs) "terms"=true:=by
 rw [j9];exact An h
theorem jH {h:Str} {ts:List Aa} {hands:Bool} (e:(h=="fun"||(h=="main"||h=="loop"))=false):Jg (.tuple (.str h::ts)) hands=hands:=by
 rw [De] at e;show (if h=="fun" then false else hands||(h=="main"||h=="loop"))=hands
 rw [if_neg (by rw [e.1];exact Ai),e.2,Bool.or_false]
theorem ok1 {t:Aa} {f:Str} (h:qi t f=true):zu [t] [f]=true:=by simp [zu,h]
theorem ok2 {t u:Aa} {f g:Str} (h:qi t f=true) (h':qi u g=true):zu [t,u] [f,g]=true:=by simp [zu,h,h']
theorem ok3 {t u v:Aa} {f g k:Str} (h:qi t f=true) (h':qi u g=true) (h2:qi v k=true):zu [t,u,v] [f,g,k]=true:=by simp [zu,h,h',h2]
theorem jO {d:Aa} {sh:Str} {hands:Bool} {s t:Nat} (h:Pt d sh hands s t):Ptl [(d,sh)] hands s t:=by simpa using Ptl.cons h .nil
theorem qbu {i:Int} {hands:Bool} (h:jP i=true):Pt (.tuple [.str "number",.int i]) "term" hands 1 1:=by
 refine .mk (jC (l:=["number","name","two","fun","loop","call","step"]) (fs:=["number"]) ∅ ∅ ∅ (by cases hands <;> decide+kernel) (ok1 ((Jn _).trans h))) (s:=0) (t:=0) ?_
 rw [qN (fs:=["number"]) ∅];show Ptl (qm _ _++[]) _ _ _;rw [jT (sh:="number") ∅];exact .nil
theorem qgq {x:Str} {hands:Bool} (h:qG x=true):Pt (.tuple [.str "name",.str x]) "term" hands 1 1:=by
 refine .mk (jC (l:=["number","name","two","fun","loop","call","step"]) (fs:=["name"]) ∅ ∅ ∅ (by cases hands <;> decide+kernel) (ok1 ((jl _).trans h))) (s:=0) (t:=0) ?_
 rw [qN (fs:=["name"]) ∅];show Ptl (qm _ _++[]) _ _ _;rw [jT (sh:="name") ∅];exact .nil
theorem qiv {g:Str} {a b:Aa} {hands:Bool} {s t s' t':Nat} (h:(signs.any fun y=>y==g)=true) (ha:Pt a "term" hands s t) (hb:Pt b "term" hands s' t'):Pt (.tuple [.str "two",.str g,a,b]) "term" hands (s+s'+1) (max t t'+1):=by
 refine .mk (jC (l:=["number","name","two","fun","loop","call","step"]) (fs:=["sign","term","term"]) ∅ ∅ ∅ (by cases hands <;> decide+kernel) (ok3 ((J5 _).trans h) (j4 _) (j4 _))) ?_
 rw [qN (fs:=["sign","term","term"]) ∅,jH ∅];show Ptl (qm _ _++(qm _ _++(qm _ _++[]))) _ _ _;rw [jT (sh:="sign") ∅,jj,jj];exact (jO ha).append (jO hb)
theorem qgp {a b:Aa} {hands:Bool} {s t s' t':Nat} (ha:Pt a "term" hands s t) (hb:Pt b "term" hands s' t'):Pt (.tuple [.str "step",a,b]) "term" hands (s+s'+1) (max t t'+1):=by
 refine .mk (jC (l:=["number","name","two","fun","loop","call","step"]) (fs:=["term","term"]) ∅ ∅ ∅ (by cases hands <;> decide+kernel) (ok2 (j4 _) (j4 _))) ?_
 rw [qN (fs:=["term","term"]) ∅,jH ∅];show Ptl (qm _ _++(qm _ _++[])) _ _ _;rw [jj,jj];exact (jO ha).append (jO hb)
theorem qgt {a:Aa} {xs:List Aa} {hands:Bool} {s t s' t':Nat} (ha:Pt a "term" hands s t) (hl:xs.length≤4) (hb:Ptl (xs.map fun x=>(x,("term":Str))) hands s' t'):Pt (.tuple [.str "call",a,.tuple xs]) "term" hands (s+s'+1) (max t t'+1):=by
 refine .mk (jC (l:=["number","name","two","fun","loop","call","step"]) (fs:=["term","terms"]) ∅ ∅ ∅ (by cases hands <;> decide+kernel) (ok2 (j4 _) (qdm hl))) ?_
 rw [qN (fs:=["term","terms"]) ∅,jH ∅];show Ptl (qm _ _++(qm _ _++[])) _ _ _;rw [jj,yr,Bi];exact (jO ha).append hb
theorem WX {h sh:Str} {l:List Str} {ns xs:List Aa} {hands hi:Bool} {s t:Nat} (e1:heads.lookup sh=some l) (e2:(l.any fun y=>y==h)=true) (e3:forms.lookup h=some (["names","body"]:List Str)) (e4:(h=="hand"&&!hands)=false) (hn:areNames (.tuple ns)=true) (hw:∀ ts,Jg (.tuple (.str h::ts)) hands=hi) (hb:Bd xs hi s t):
  Pt (.tuple [.str h,.tuple ns,.tuple xs]) sh hands (s+1) (t+1):=by
 refine .mk (jC e1 e2 e3 e4 (ok2 ((Ja _).trans hn) (J6 hb.few))) ?_;rw [qN e3,hw];show Ptl (qm _ _++(qm _ _++[])) _ _ _;rw [jT (sh:="names") ∅,zI,B2,Bi];exact hb.all
theorem qiy {ns xs:List Aa} {hands:Bool} {s t:Nat} (hn:areNames (.tuple ns)=true) (hb:Bd xs false s t):Pt (.tuple [.str "fun",.tuple ns,.tuple xs]) "term" hands (s+1) (t+1):=
 WX (l:=["number","name","two","fun","loop","call","step"]) ∅ ∅ ∅ (by cases hands <;> decide+kernel) hn (fun ts=>by
  show (if (("fun":Str)=="fun")=true then false else _)=false
  rw [if_pos ∅]) hb
theorem qgs {ns xs:List Aa} {hands:Bool} {s t:Nat} (hn:areNames (.tuple ns)=true) (hb:Bd xs true s t):Pt (.tuple [.str "loop",.tuple ns,.tuple xs]) "term" hands (s+1) (t+1):=
 WX (l:=["number","name","two","fun","loop","call","step"]) ∅ ∅ ∅ (by cases hands <;> decide+kernel) hn (fun ts=>by
  show (if (("loop":Str)=="fun")=true then false else hands||((("loop":Str)=="main")||(("loop":Str)=="loop")))=true
  rw [if_neg ∅,show ((("loop":Str)=="main")||(("loop":Str)=="loop"))=true from ∅,Bool.or_true]) hb
theorem qgr {ns xs:List Aa} {s t:Nat} (hn:areNames (.tuple ns)=true) (hb:Bd xs true s t):Pt (.tuple [.str "main",.tuple ns,.tuple xs]) "program" false (s+1) (t+1):=
 WX (l:=["main"]) ∅ ∅ ∅ ∅ hn (fun ts=>by
  show (if (("main":Str)=="fun")=true then false else false||((("main":Str)=="main")||(("main":Str)=="loop")))=true
  rw [if_neg ∅,show ((("main":Str)=="main")||(("main":Str)=="loop"))=true from ∅,Bool.or_true]) hb
abbrev stm:List Str:=["let","set","do","if","while","hand","back","fault","try"]
theorem qix {h x:Str} {a:Aa} {hands:Bool} {s t:Nat} (hh:h="let"∨h="set") (hx:qG x=true) (ha:Pt a "term" hands s t):Pt (.tuple [.str h,.str x,a]) "statement" hands (s+1) (t+1):=by
 have e3:forms.lookup h=some (["name","term"]:List Str):=by rcases hh with rfl | rfl <;> decide+kernel
 refine .mk (jC (l:=stm) (fs:=["name","term"]) ∅ (by rcases hh with rfl | rfl <;> decide+kernel) e3 (by rcases hh with rfl | rfl <;> cases hands <;> decide+kernel) (ok2 ((jl _).trans hx) (j4 _))) ?_
 rw [qN e3,jH (by rcases hh with rfl | rfl <;> decide+kernel)]
 show Ptl (qm _ _++(qm _ _++[])) _ _ _;rw [jT (sh:="name") ∅,jj];exact jO ha
theorem qd1 {x:Str} {a:Aa} {hands:Bool} {s t:Nat} (hx:(qG x&&x !="any")=true) (ha:Pt a "term" hands s t):Pt (.tuple [.str "fault",.str x,a]) "statement" hands (s+1) (t+1):=by
 refine .mk (jC (l:=stm) (fs:=["word","term"]) ∅ ∅ ∅ (by cases hands <;> decide+kernel) (ok2 ((J4 _).trans hx) (j4 _))) ?_
 rw [qN (fs:=["word","term"]) ∅,jH ∅];show Ptl (qm _ _++(qm _ _++[])) _ _ _;rw [jT (sh:="word") ∅,jj];exact jO ha
theorem qku {h:Str} {a:Aa} {hands:Bool} {s t:Nat} (hh:h="do"∨h="back"∨(h="hand"∧hands=true)) (ha:Pt a "term" hands s t):Pt (.tuple [.str h,a]) "statement" hands (s+1) (t+1):=by
 have e3:forms.lookup h=some (["term"]:List Str):=by rcases hh with rfl | rfl | ⟨rfl,_⟩ <;> decide+kernel
 refine .mk (jC (l:=stm) (fs:=["term"]) ∅ (by rcases hh with rfl | rfl | ⟨rfl,_⟩ <;> decide+kernel) e3 (by rcases hh with rfl | rfl | ⟨rfl,rfl⟩ <;> first | decide+kernel | (cases hands <;> decide+kernel)) (ok1 (j4 _))) ?_
 rw [qN e3,jH (by rcases hh with rfl | rfl | ⟨rfl,_⟩ <;> decide+kernel)]
 show Ptl (qm _ _++[]) _ _ _;rw [jj];exact jO ha
theorem qdz {a:Aa} {xs:List Aa} {hands:Bool} {s t s' t':Nat} (ha:Pt a "term" hands s t) (hb:Bd xs hands s' t'):Pt (.tuple [.str "while",a,.tuple xs]) "statement" hands (s+s'+1) (max t t'+1):=by
 refine .mk (jC (l:=stm) (fs:=["term","body"]) ∅ ∅ ∅ (by cases hands <;> decide+kernel) (ok2 (j4 _) (J6 hb.few))) ?_
 rw [qN (fs:=["term","body"]) ∅,jH ∅];show Ptl (qm _ _++(qm _ _++[])) _ _ _;rw [jj,zI,Bi];exact (jO ha).append hb.all
theorem qkt {a:Aa} {xs ys:List Aa} {hands:Bool} {s t s' t' s2 t2:Nat} (ha:Pt a "term" hands s t) (hb:Bd xs hands s' t') (hc:Bd ys hands s2 t2):Pt (.tuple [.str "if",a,.tuple xs,.tuple ys]) "statement" hands (s+(s'+s2)+1) (max t (max t' t2)+1):=by
 refine .mk (jC (l:=stm) (fs:=["term","body","body"]) ∅ ∅ ∅ (by cases hands <;> decide+kernel) (ok3 (j4 _) (J6 hb.few) (J6 hc.few))) ?_
 rw [qN (fs:=["term","body","body"]) ∅,jH ∅];show Ptl (qm _ _++(qm _ _++(qm _ _++[]))) _ _ _;rw [jj,zI,zI,Bi];exact (jO ha).append (hb.all.append hc.all)
theorem qiw {x y:Str} {xs ys zs:List Aa} {hands:Bool} {s t s' t' s2 t2:Nat} (hx:qG x=true) (hy:qG y=true) (ha:Bd xs hands s t) (hb:Bd ys hands s' t') (hc:Bd zs hands s2 t2):
  Pt (.tuple [.str "try",.tuple xs,.str x,.str y,.tuple ys,.tuple zs]) "statement" hands (s+(s'+s2)+1) (max t (max t' t2)+1):=by
 have sx:qi (.str x) "name"=true:=(jl _).trans hx;have sy:qi (.str y) "name"=true:=(jl _).trans hy;refine .mk (jC (l:=stm) (fs:=["body","name","name","body","body"]) ∅ ∅ ∅ (by cases hands <;> decide+kernel) (by simp [zu,J6 ha.few,J6 hb.few,J6 hc.few,sx,sy])) ?_
 rw [qN (fs:=["body","name","name","body","body"]) ∅,jH ∅];show Ptl (qm _ _++(qm _ _++(qm _ _++(qm _ _++(qm _ _++[]))))) _ _ _;rw [zI,jT (sh:="name") ∅,jT (sh:="name") ∅,zI,zI,Bi,B2,B2];exact ha.all.append (hb.all.append hc.all)
mutual
def noL:Aa→Bool
 | .list _=>false
 | .dict _=>false
 | .tuple xs=>zY xs
 | .none=>true
 | .bool _=>true
 | .int _=>true
 | .str _=>true
def zY:List Aa→Bool
 | []=>true
 | x::r=>noL x&&zY r
end
structure Gd (n:Nat) (d:Aa):Prop where
 nol:noL d=true
 lay:d.canLay0=true
 dep:d.depth≤n
theorem Gd.mono {n m:Nat} {d:Aa} (h:Gd n d) (hm:n≤m):Gd m d:=⟨h.nol,h.lay,Aw h.dep hm⟩
theorem XH {x:Str} {n:Nat} (h:PyData.strOk x=true):Gd n (.str x):=⟨rfl,h,Bm _⟩
theorem qe4 {i:Int} {n:Nat}:Gd n (.int i):=⟨rfl,rfl,Bm _⟩
theorem QT {n:Nat}:∀ {xs:List Aa},(∀ x∈xs,Gd n x)→zY xs=true∧PyData.canLayAll0 xs=true∧PyData.depthAll xs≤n
 | [],_=>⟨rfl,rfl,Bm _⟩
 | x::r,h=>by
  obtain ⟨h1,h2,h3⟩:=QT fun y hy=>h y (Ao _ hy);have hx:=h x Au;refine ⟨?_,?_,?_⟩
  ·rw [zY,hx.nol,h1];rfl
  ·rw [PyData.canLayAll0,hx.lay,h2];rfl
  ·rw [PyData.depthAll];exact Dk.mpr ⟨hx.dep,h3⟩
theorem yh {n:Nat} {xs:List Aa} (h:∀ x∈xs,Gd n x):Gd (n+1) (.tuple xs):=by
 obtain ⟨h1,h2,h3⟩:=QT h;exact ⟨by rw [noL];exact h1,by rw [PyData.canLay0];exact h2,by rw [PyData.depth];exact Cu h3⟩
theorem Xz {x:Str} (h:qG x=true):PyData.strOk x=true:=by
 unfold qG at h;rw [Al] at h;unfold PyData.strOk;rw [← Array.all_toList,A4];intro c hc;have q:=A4.mp h.2 c hc;rw [Al] at q;have:=A3 q.2;exact An ⋯
abbrev vY:List Str:=["number","name","word","sign","names","terms","body","term"]
theorem qam {t:Aa} {n:Nat} (h:qY t=true):Gd n t:=by
 cases t with
 | str x=>exact XH (Xz h)
 | _=>cases h
theorem qld {t:Aa} {f:Str} {n:Nat} (hs:qi t f=true) (hf:f∈vY) (hk:∀ z∈qm t f,Gd n z.1):Gd (n+1) t:=by
 simp only [vY,Ap,A2,or_false] at hf;rcases hf with rfl | rfl | rfl | rfl | rfl | rfl | rfl | rfl
 ·rw [Jn] at hs;cases t with
  | int i=>exact qe4
  | _=>cases hs
 ·rw [jl] at hs;exact qam hs
 ·rw [J4] at hs;cases t with
  | str x=>
   have q:(qG x&&x !="any")=true:=hs;rw [Al] at q;exact XH (Xz q.1)
  | _=>cases hs
 ·rw [J5] at hs;cases t with
  | str x=>
   have q:(signs.any fun y=>y==x)=true:=hs;obtain ⟨y,hy,e⟩:=C4.mp q;cases Az.mp e;refine XH ?_;have:(signs.all fun y=>PyData.strOk y)=true:=∅;exact A4.mp this _ hy
  | _=>cases hs
 ·rw [Ja] at hs;cases t with
  | tuple xs=>
   simp only [areNames,Al] at hs;exact yh fun x hx=>qam (A4.mp hs.1.2 x hx)
  | _=>cases hs
 ·rw [j9] at hs;cases t with
  | tuple xs=>
   rw [yr] at hk;exact yh fun x hx=>hk (x,"term") (Dg hx)
  | _=>cases hs
 ·rw [jD] at hs;cases t with
  | tuple xs=>
   rw [zI] at hk;exact yh fun x hx=>hk (x,"statement") (Dg hx)
  | _=>cases hs
 ·rw [jj] at hk;exact (hk (t,"term") Au).mono (Ex _)
theorem wM:∀ p∈forms,PyData.strOk p.1=true∧∀ f∈p.2,f∈vY:=by
 have h:(forms.all fun p=>PyData.strOk p.1&&p.2.all fun f=>vY.any fun g=>g==f)=true:=∅;intro p hp;have q:=A4.mp h p hp;rw [Al] at q;refine ⟨q.1,fun f hf=>?_⟩;obtain ⟨g,hg,e⟩:=C4.mp (A4.mp q.2 f hf);cases Az.mp e;exact hg
theorem qhn {d:Aa} {sh:Str} {hands:Bool} {n:Nat} (h:qQ d sh hands=true) (hk:∀ e∈jY d,Gd n e):Gd (n+2) d:=by
 obtain ⟨hd,ts,fs,l,rfl,_,_,e,_,hl,hs,_⟩:=qK h;obtain ⟨k1,k2⟩:=wM _ (A5 e);refine yh fun x hx=>?_;rcases Ap.mp hx with rfl | hx
 ·exact XH k1
 ·obtain ⟨i,hi,rfl⟩:=List.getElem_of_mem hx;have hz:(ts[i],fs[i]'⋯)∈ts.zip fs:=by
   rw [List.mem_iff_getElem];exact ⟨i,by rw [Dd];omega,by rw [List.getElem_zip]⟩
  refine qld (hs _ hz) (k2 _ (List.getElem_mem _)) fun z hzz=>hk z.1 ?_;unfold jY;refine Dg ?_;rw [qN e];exact Ct.mpr ⟨_,hz,hzz⟩
mutual
theorem Tr.gd:∀ {d:Aa} {s t:Nat},Tr d s t→Gd (2*t) d
 | _,_,_,.mk hf h=>qhn hf (Trl.gd h)
theorem Trl.gd:∀ {ds:List Aa} {s t:Nat},Trl ds s t→∀ d∈ds,Gd (2*t) d
 | _,_,_,.nil=>fun d hd=>nomatch hd
 | _,_,_,.cons h1 h2=>by
  have a:=Tr.gd h1;have b:=Trl.gd h2;intro d hd;rcases Ap.mp hd with e | hd
  ·rw [e];exact a.mono ⋯
  ·exact (b d hd).mono ⋯
end
abbrev sz (d:Aa):Nat:=d.shown.length
theorem Y3:∀ xs:List Aa,PyData.shownAll xs=xs.map PyData.shown
 | []=>rfl
 | x::r=>by rw [PyData.shownAll,Y3 r];rfl
theorem Xa (xs:List Aa):sz (.tuple xs)≤(xs.map sz).sum+2*xs.length+3:=by
 have h:=tupleText_len_le (xs.map PyData.shown);rw [Ah,Bv] at h;have e:sz (.tuple xs)=(tupleText (xs.map PyData.shown)).length:=by
  show (PyData.shown (.tuple xs)).length=_;rw [PyData.shown,Y3]
 rw [e];exact h
theorem Qb {x:Str} {n:Nat} (h:PyData.strOk x=true) (hn:x.length≤n):sz (.str x)≤10*n+2:=by
 have q:=StrLaws.reprText_len x fun c hc=>by
  unfold PyData.strOk at h;rw [← Array.all_toList,A4] at h;have:=A3 (h c hc);omega
 have e:sz (.str x)=(reprText x).length:=by
  show (PyData.shown (.str x)).length=_;rw [PyData.shown]
 omega
theorem VT {i:Int} (h:jP i=true):i.natAbs.log2<1920:=by
 unfold jP at h;rw [Al] at h;have a:=A3 h.1;have b:=A3 h.2;have c:i.natAbs<2 ^ 1920:=Ch (show i.natAbs≤1000000000000 from ⋯) ∅
 by_cases z:i.natAbs=0
 ·rw [z];decide
 ·exact (Nat.log2_lt z).mpr c
theorem qim {i:Int} (h:jP i=true):sz (.int i)≤1921:=by
 have e:sz (.int i)=(Str.ofString (toString i)).length:=by
  show (PyData.shown (.int i)).length=_;rw [PyData.shown]
 rw [e];exact PyProof.Rows.int_text_len_1921 (VT h)
theorem qem {x:Str} (h:qG x=true):x.length≤8:=by
 unfold qG at h;rw [Al,Al] at h;exact A3 h.1.2
theorem Xb {t:Aa} (h:qY t=true):sz t≤82∧t.showable=true:=by
 cases t with
 | str x=>exact ⟨Qb (Xz h) (qem h),rfl⟩
 | _=>cases h
theorem sum_le {c:Nat}:∀ {xs:List Aa},(∀ x∈xs,sz x≤c)→(xs.map sz).sum≤c*xs.length
 | [],_=>Bm _
 | x::r,h=>by
  have a:=h x Au;have b:=sum_le fun y hy=>h y (Ao _ hy);rw [As,B9,Aj,Nat.mul_succ];omega
theorem ZW:∀ {xs:List Aa},(∀ x∈xs,x.showable=true)→PyData.showableAll xs=true
 | [],_=>rfl
 | x::r,h=>by
  rw [PyData.showableAll,h x Au,ZW fun y hy=>h y (Ao _ hy)];rfl
theorem Xc:∀ (xs:List Aa),(xs.map fun x=>sz x+2).sum=(xs.map sz).sum+2*xs.length
 | []=>rfl
 | x::r=>by
  rw [As,B9,Xc r,As,B9,Aj];omega
theorem V1 {xs:List Aa} (h:∀ x∈xs,x.showable=true):(PyData.tuple xs).showable=true:=by
 rw [PyData.showable];exact ZW h
theorem qkc {t:Aa} {f:Str} (hs:qi t f=true) (hf:f∈vY) (hk:∀ z∈qm t f,z.1.showable=true):t.showable=true∧sz t≤2000+((qm t f).map fun z=>sz z.1+2).sum:=by
 simp only [vY,Ap,A2,or_false] at hf;rcases hf with rfl | rfl | rfl | rfl | rfl | rfl | rfl | rfl
 ·rw [Jn] at hs;cases t with
  | int i=>
   have:=qim hs;exact ⟨by rw [PyData.showable];exact An (VT hs),⋯⟩
  | _=>cases hs
 ·rw [jl] at hs;obtain ⟨a,b⟩:=Xb hs;exact ⟨b,⋯⟩
 ·rw [J4] at hs;cases t with
  | str x=>
   have q:(qG x&&x !="any")=true:=hs;rw [Al] at q;obtain ⟨a,b⟩:=Xb (t:= .str x) q.1;exact ⟨b,⋯⟩
  | _=>cases hs
 ·rw [J5] at hs;cases t with
  | str x=>
   have q:(signs.any fun y=>y==x)=true:=hs;obtain ⟨y,hy,e⟩:=C4.mp q;cases Az.mp e;have k:(signs.all fun y=>PyData.strOk y&&decide (y.length≤8))=true:=∅;have k':=A4.mp k _ hy;rw [Al] at k';have:=Qb k'.1 (A3 k'.2);exact ⟨rfl,⋯⟩
  | _=>cases hs
 ·rw [Ja] at hs;cases t with
  | tuple xs=>
   simp only [areNames,Al] at hs;have l4:=A3 hs.1.1;have q:∀ x∈xs,sz x≤82∧x.showable=true:=fun x hx=>Xb (A4.mp hs.1.2 x hx);have a:=Xa xs;have b:=sum_le fun x hx=>(q x hx).1;exact ⟨V1 fun x hx=>(q x hx).2,⋯⟩
  | _=>cases hs
 ·rw [j9] at hs;cases t with
  | tuple xs=>
   rw [yr] at hk ⊢;rw [Bv];have a:=Xa xs;have b:=Xc xs;have e:((fun z:Aa×Str=>sz z.1+2) ∘ fun x:Aa=>(x,("term":Str)))=fun x=>sz x+2:=rfl;rw [e,b];exact ⟨V1 fun x hx=>hk (x,"term") (Dg hx),⋯⟩
  | _=>cases hs
 ·rw [jD] at hs;cases t with
  | tuple xs=>
   rw [zI] at hk ⊢;rw [Bv];have a:=Xa xs;have b:=Xc xs;have e:((fun z:Aa×Str=>sz z.1+2) ∘ fun x:Aa=>(x,("statement":Str)))=fun x=>sz x+2:=rfl;rw [e,b];exact ⟨V1 fun x hx=>hk (x,"statement") (Dg hx),⋯⟩
  | _=>cases hs
 ·rw [jj] at hk ⊢;refine ⟨hk (t,"term") Au,?_⟩;rw [As,B9];show sz t≤2000+(sz t+2+_);omega
theorem qda:∀ (l:List (Aa×Str)),(∀ p∈l,sz p.1≤2000+((qm p.1 p.2).map fun z=>sz z.1+2).sum)→(l.map fun p=>sz p.1).sum≤2000*l.length+((l.flatMap fun p=>qm p.1 p.2).map fun z=>sz z.1+2).sum
 | [],_=>Bm _
 | p::r,h=>by
  have a:=h p Au;have b:=qda r fun q hq=>h q (Ao _ hq);rw [As,B9,Aj,Cv,A1,Dr];omega
theorem qhm {d:Aa} {sh:Str} {hands:Bool} (h:qQ d sh hands=true) (hk:∀ e∈jY d,e.showable=true):d.showable=true∧sz d+2≤10200+((jY d).map fun e=>sz e+2).sum:=by
 obtain ⟨hd,ts,fs,l,rfl,_,_,e,h5,hl,hs,_⟩:=qK h;obtain ⟨k1,k2⟩:=wM _ (A5 e);have hh:hd.length≤8:=by
  have k:(forms.all fun p=>decide (p.1.length≤8))=true:=∅;exact A3 (A4.mp k _ (A5 e))
 have q:∀ p∈ts.zip fs,p.1.showable=true∧sz p.1≤2000+((qm p.1 p.2).map fun z=>sz z.1+2).sum:=fun p hp=>by
  refine qkc (hs p hp) (k2 _ (C0 hp).2) fun z hz=>hk z.1 ?_;unfold jY;refine Dg ?_;rw [qN e];exact Ct.mpr ⟨_,hp,hz⟩
 have ez:(ts.zip fs).map (·.1)=ts:=List.map_fst_zip ⋯;refine ⟨V1 fun x hx=>?_,?_⟩
 ·rcases Ap.mp hx with rfl | hx
  ·rfl
  ·rw [← ez] at hx;obtain ⟨p,hp,rfl⟩:=Bo.mp hx;exact (q p hp).1
 ·have a:=Xa (.str hd::ts);have b:=qda (ts.zip fs) fun p hp=>(q p hp).2;have c:sz (.str hd)≤82:=Qb k1 hh;have e2:((ts.zip fs).map fun p=>sz p.1)=ts.map sz:=by
   rw [← ez,Bv]
   congr 1
   rw [ez]
  have e3:((jY (.tuple (.str hd::ts))).map fun e=>sz e+2)=(((ts.zip fs).flatMap fun p=>qm p.1 p.2).map fun z=>sz z.1+2):=by
   unfold jY;rw [qN e,Bv];rfl
  rw [e2,Dd] at b;rw [As,B9,Aj] at a;rw [e3];omega
mutual
theorem Tr.sz:∀ {d:Aa} {s t:Nat},Tr d s t→d.showable=true∧Tre.sz d+2≤10200*s
 | _,_,_,.mk hf h=>by
  obtain ⟨a,b⟩:=Trl.sz h;obtain ⟨c,e⟩:=qhm hf a;exact ⟨c,⋯⟩
theorem Trl.sz:∀ {ds:List Aa} {s t:Nat},Trl ds s t→(∀ d∈ds,d.showable=true)∧(ds.map fun e=>Tre.sz e+2).sum≤10200*s
 | _,_,_,.nil=>⟨fun d hd=>(nomatch hd),Bm _⟩
 | _,_,_,.cons h1 h2=>by
  obtain ⟨a,b⟩:=Tr.sz h1;obtain ⟨c,e⟩:=Trl.sz h2;refine ⟨fun d hd=>?_,?_⟩
  ·rcases Ap.mp hd with z | hd
   ·rw [z];exact a
   ·exact c d hd
  ·rw [As,B9];omega
end
theorem qaq:∀ {xs:List Aa},PyData.canLayAll0 xs=true→zY xs=true→∀ x∈xs,x.canLay0=true∧noL x=true
 | [],_,_,_,hx=>nomatch hx
 | y::r,h,n,x,hx=>by
  rw [PyData.canLayAll0,Al] at h;rw [zY,Al] at n;rcases Ap.mp hx with rfl | hx
  ·exact ⟨h.1,n.1⟩
  ·exact qaq h.2 n.2 x hx
theorem Gd.mem {n:Nat} {xs:List Aa} (h:Gd n (.tuple xs)):∀ x∈xs,Gd n x:=fun x hx=>by
 have a:=h.lay;have b:=h.nol;have c:=h.dep;rw [PyData.canLay0] at a;rw [noL] at b;rw [PyData.depth] at c;obtain ⟨d,e⟩:=qaq a b x hx;exact ⟨e,d,by have:=PyData.depth_le_depthAll xs x hx;omega⟩
theorem Gd.shaped {n:Nat} {d:Aa} (h:Gd n d) (hn:n≤64):SeqAt.shaped d=true:=by
 unfold SeqAt.shaped;rw [h.lay,An (Aw h.dep hn)];rfl
def YJ:Aa→Bool
 | .tuple _=>true
 | _=>false
def holds (h:Str):Bool:=h=="main"||(h=="fun"||h=="loop")
end Tre
set_option tactic.hygienic true
namespace Tre
open PySem
def isFn (d:Aa):Bool:=holds (headOf d)
def fnOf:Aa→Aa→Aa
 | .tuple (h::a::b::_),o=> .tuple [h,a,b,o]
 | _,_=> .none
def Jl (d o:Aa) (acc:List Aa):List Aa:=if isFn d=true then acc++[fnOf d o] else acc
def wG (d o:Aa) (acc:List Aa):Aa:=if isFn d=true then .int (acc.length:Nat) else o
def WD:Nat→Aa→Aa→List Aa→List Aa
 | 0,_,_,acc=>acc
 | n+1,d,o,acc=>(jY d).foldl (fun a e=>WD n e (wG d o acc) a) (Jl d o acc)
structure Box (α:Type) where
 val:α
@[irreducible] def qc0:Box (Nat→Aa→Aa→List Aa→List Aa):=⟨WD⟩
def Ve (n:Nat) (d o:Aa) (acc:List Aa):List Aa:=qc0.val n d o acc
theorem WC (n:Nat) (d o:Aa) (acc:List Aa):Ve n d o acc=WD n d o acc:=by
 unfold Ve qc0;rfl
theorem Z2 (d o:Aa) (acc:List Aa):Ve 0 d o acc=acc:=by
 rw [WC,WD]
theorem J3 (n:Nat) (d o:Aa) (acc:List Aa):Ve (n+1) d o acc=(jY d).foldl (fun a e=>Ve n e (wG d o acc) a) (Jl d o acc):=by
 rw [WC,WD]
 congr 1
 funext a e;rw [WC]
abbrev Wa (n:Nat) (ds:List Aa) (o:Aa) (acc:List Aa):List Aa:=ds.foldl (fun a e=>Ve n e o a) acc
theorem Trl.mem:∀ {ds:List Aa} {s t:Nat},Trl ds s t→∀ d∈ds,∃ s' t',Tr d s' t'∧s'≤s∧t'≤t:=by
 intro ds
 induction ds with
 | nil=>intro s t _ d hd;cases hd
 | cons e r ih=>
  intro s t h d hd;cases h with
  | @cons _ _ s1 t1 s2 t2 h1 h2=>
   rcases Ap.mp hd with rfl | hd
   ·exact ⟨s1,t1,h1,⋯,⋯⟩
   ·obtain ⟨s',t',a,b,c⟩:=ih h2 d hd;exact ⟨s',t',a,⋯,⋯⟩
theorem yj {α β:Type} {f g:α→β→α}:∀ (l:List β) (a:α),(∀ e∈l,∀ a,f a e=g a e)→l.foldl f a=l.foldl g a
 | [],_,_=>rfl
 | e::r,a,h=>by
  rw [B8,B8,h e Au];exact yj r _ fun e he=>h e (Ao _ he)
theorem qcz:∀ (n:Nat) {d:Aa} {s t:Nat} (o:Aa) (acc:List Aa),Tr d s t→t≤n→Ve n d o acc=Ve (n+1) d o acc
 | 0,d,s,t,o,acc,h,ht=>by
  cases h;omega
 | n+1,d,s,t,o,acc,h,ht=>by
  cases h with
  | mk hf tl=>
   rw [J3,J3];refine yj _ _ fun e he a=>?_;obtain ⟨s',t',h',_,h2⟩:=tl.mem e he;exact qcz n _ _ h' ⋯
theorem qb9:∀ p∈forms,holds p.1=true→p.2.length=2:=by
 have h:(forms.all fun p=>!holds p.1||decide (p.2.length=2))=true:=∅;intro p hp hh;have q:=A4.mp h p hp;rw [hh] at q;exact A3 q
theorem qib {d:Aa} {sh:Str} {hands:Bool} (h:qQ d sh hands=true) (hh:isFn d=true):∃ hd a b,d= .tuple [.str hd,a,b]∧holds hd=true:=by
 obtain ⟨hd,ts,fs,l,rfl,_,_,e,_,hl,_⟩:=qK h;have h2:=qb9 _ (A5 e) hh
 match ts,hl with
 | [a,b],_=>exact ⟨hd,a,b,rfl,hh⟩
 | [],z=>rw [h2] at z;cases z
 | [_],z=>rw [h2] at z;cases z
 | _::_::_::_,z=>rw [h2] at z;cases z
def Fn (e:Aa):Prop:=∃ h a b o,e= .tuple [.str h,a,b,o]∧Gd 60 e
def FnI (e:Aa):Prop:=∃ h a b k,e= .tuple [.str h,a,b,.int k]
structure Acc (acc:List Aa):Prop where
 all:∀ e∈acc,Fn e
 tail:∀ e∈acc.tail,FnI e
theorem qle {d o:Aa} {s t:Nat} (h:Tr d s t) (hh:isFn d=true) (ht:t≤29) (ho:Gd 0 o):Fn (fnOf d o):=by
 have g:=h.gd;cases h with
 | mk hf _=>
  obtain ⟨hd,a,b,rfl,_⟩:=qib hf hh;refine ⟨hd,a,b,o,rfl,(yh (n:=59) fun x hx=>?_)⟩;have q:∀ x∈[.str hd,a,b],Gd 59 x:=fun x hx=>(g.mem x hx).mono ⋯;simp only [Ap,A2,or_false] at hx;rcases hx with rfl | rfl | rfl | rfl
  ·exact q _ (by simp)
  ·exact q _ (by simp)
  ·exact q _ (by simp)
  ·exact ho.mono ⋯
theorem qfv {d:Aa} {s t:Nat} {k:Int} {acc:List Aa} (h:Tr d s t) (ht:t≤29) (hn:acc≠[]) (ha:Acc acc):Acc (Jl d (.int k) acc)∧Jl d (.int k) acc≠[]:=by
 unfold Jl;split
 ·rename_i hh;refine ⟨⟨fun e he=>?_,fun e he=>?_⟩,by simp⟩
  ·rcases Ci.mp he with he | he
   ·exact ha.all e he
   ·cases A0.mp he;exact qle h hh ht qe4
  ·rw [List.tail_append_of_ne_nil hn] at he;rcases Ci.mp he with he | he
   ·exact ha.tail e he
   ·cases A0.mp he;cases h with
    | mk hf _=>
     obtain ⟨hd,a,b,rfl,_⟩:=qib hf hh;exact ⟨hd,a,b,k,rfl⟩
 ·exact ⟨ha,hn⟩
theorem qg0 (d:Aa) (k:Int) (acc:List Aa):∃ j,wG d (.int k) acc= .int j:=by
 unfold wG;split
 ·exact ⟨_,rfl⟩
 ·exact ⟨k,rfl⟩
theorem qhv (d o:Aa) (acc:List Aa):(Jl d o acc).length≤acc.length+1:=by
 unfold Jl;split
 ·simp
 ·omega
theorem wv:∀ (ds:List Aa) (o:Aa) (acc:List Aa),Wa 0 ds o acc=acc
 | [],_,_=>rfl
 | d::r,o,acc=>by
  show List.foldl _ (Ve 0 d o acc) r=acc;rw [Z2];exact wv r o acc
theorem qfe:∀ (n:Nat) {ds:List Aa} {s t:Nat} (k:Int) (acc:List Aa),Trl ds s t→t≤29→acc≠[]→Acc acc→Acc (Wa n ds (.int k) acc)∧Wa n ds (.int k) acc≠[]∧(Wa n ds (.int k) acc).length≤acc.length+s
 | 0,ds,s,t,k,acc,h,ht,hn,ha=>by
  have e:=wv ds (.int k) acc;rw [e];exact ⟨ha,hn,⋯⟩
 | n+1,ds,s,t,k,acc,h,ht,hn,ha=>by
  induction ds generalizing s t acc with
  | nil=>
   cases h;exact ⟨ha,hn,Ax _⟩
  | cons d r ih=>
   cases h with
   | @cons _ _ s1 t1 s2 t2 h1 h2=>
    unfold Wa;rw [B8,J3];obtain ⟨a1,a2⟩:=qfv (k:=k) h1 ⋯ hn ha;obtain ⟨j,ej⟩:=qg0 d k acc;have al:=qhv d (.int k) acc;cases h1 with
    | @mk _ sh hands s0 t0 hf tl=>
     obtain ⟨b1,b2,b3⟩:=qfe n j (Jl d (.int k) acc) tl ⋯ a2 a1;rw [ej];obtain ⟨c1,c2,c3⟩:=ih _ _ (Wa n (jY d) (.int j) (Jl d (.int k) acc)) h2 ⋯ b2 b1;exact ⟨c1,c2,by show List.length (Wa (n+1) r (.int k) (Wa n (jY d) (.int j) (Jl d (.int k) acc)))≤_;omega⟩
abbrev funs (d:Aa):List Aa:=Ve 30 d .none []
inductive Stk:List (Aa×Aa)→Nat→Prop
 | nil:Stk [] 0
 | cons {d o:Aa} {r:List (Aa×Aa)} {s t m:Nat}:Tr d s t→t≤20→Gd 0 o→Stk r m→Stk ((d,o)::r) (s+m)
theorem Stk.push {o:Aa} (ho:Gd 0 o) {r:List (Aa×Aa)} {m:Nat} (hr:Stk r m):∀ {ds:List Aa} {s t:Nat},Trl ds s t→t≤20→Stk (ds.map (fun e=>(e,o))++r) (s+m):=by
 intro ds
 induction ds with
 | nil=>intro s t h _;cases h;simpa using hr
 | cons d q ih=>
  intro s t h ht;cases h with
  | @cons _ _ s1 t1 s2 t2 h1 h2=>
   have:=Stk.cons h1 ⋯ ho (ih h2 ⋯);rw [As,Cc,Ez];exact this
abbrev qkz (p:Aa×Aa):Aa:= .tuple [p.1,p.2]
theorem Stk.len:∀ {tops:List (Aa×Aa)} {m:Nat},Stk tops m→tops.length≤m:=by
 intro tops
 induction tops with
 | nil=>intro m _;exact Bm _
 | cons p r ih=>
  intro m h;cases h with
  | cons h1 _ _ h2=>
   have:=ih h2;cases h1;rw [Aj];omega
theorem Stk.nol:∀ {tops:List (Aa×Aa)} {m:Nat},Stk tops m→zY (tops.map qkz)=true:=by
 intro tops
 induction tops with
 | nil=>intro m _;rfl
 | cons p r ih=>
  intro m h;cases h with
  | cons h1 _ h0 h2=>
   rw [As,zY,ih h2,Bool.and_true];show noL (.tuple [_,_])=true;rw [noL,zY,zY,zY,h1.gd.nol,h0.nol];rfl
end Tre
set_option tactic.hygienic false
namespace Tre
open PySem
def yW (h:Str):Bool:=h=="if"||(h=="while"||h=="try")
mutual
def brS:Aa→List Str
 | .tuple (.str h::t::r)=>(if h=="let" then [txt t] else [])++jv h 1 (t::r)
 | _=>[]
def jv (h:Str):Nat→List Aa→List Str
 | _,[]=>[]
 | k,t::r=>(if h=="try"&&k==3 then [txt t] else [])++((if yW h&&(YJ t&&(decide (1<k)||h=="try")) then brB t else [])++jv h (k+1) r)
def brB:Aa→List Str
 | .tuple xs=>brL xs
 | _=>[]
def brL:List Aa→List Str
 | []=>[]
 | x::r=>brS x++brL r
end
theorem QY:∀ (a b:List Aa),brL (a++b)=brL a++brL b
 | [],b=>by rw [B2,brL,B2]
 | x::r,b=>by rw [Cc,brL,brL,QY r b,Bl]
theorem Yr (xs:List Aa):YJ (.tuple xs)=true:=rfl
theorem qh5 (x:Str):YJ (.str x)=false:=rfl
theorem qj0 (a b:Aa):brS (.tuple [.str "let",a,b])=[txt a]:=by
 rw [brS,jv,jv,jv,if_pos ∅,if_neg ∅,if_neg (by rw [show yW "let"=false from ∅,B3];exact Ai),if_neg ∅,if_neg (by rw [show yW "let"=false from ∅,B3];exact Ai)]
 rfl
theorem qlp (a:Aa) (xs ys:List Aa):brS (.tuple [.str "if",a,.tuple xs,.tuple ys])=brL xs++brL ys:=by
 rw [brS,jv,jv,jv,jv,Yr,Yr,if_neg ∅,if_neg ∅,if_neg (show ¬ ((yW "if"&&(YJ a&&(decide (1<1)||(("if":Str)=="try"))))=true) by
  rw [show (decide (1<1)||(("if":Str)=="try"))=false from ∅,Ev,Ev];exact Ai),if_neg ∅,if_pos ∅,if_neg ∅,if_pos ∅,brB,brB]
 simp
theorem qfs (a:Aa) (xs:List Aa):brS (.tuple [.str "while",a,.tuple xs])=brL xs:=by
 rw [brS,jv,jv,jv,Yr,if_neg ∅,if_neg ∅,if_neg (show ¬ ((yW "while"&&(YJ a&&(decide (1<1)||(("while":Str)=="try"))))=true) by
  rw [show (decide (1<1)||(("while":Str)=="try"))=false from ∅,Ev,Ev];exact Ai),if_neg ∅,if_pos ∅,brB]
 simp
theorem qjz (b c:Str) (xs ys zs:List Aa):brS (.tuple [.str "try",.tuple xs,.str b,.str c,.tuple ys,.tuple zs])=brL xs++(c::(brL ys++brL zs)):=by
 rw [brS,jv,jv,jv,jv,jv,jv,Yr,Yr,Yr,qh5,qh5,if_neg ∅,if_neg ∅,if_pos ∅,if_neg ∅,if_neg ∅,if_pos ∅,if_neg ∅,if_neg ∅,if_pos ∅,if_neg ∅,if_pos ∅,brB,brB,brB];simp [txt]
theorem YW {h:Str} (hc:yW h=false):∀ (ts:List Aa) (k:Nat),jv h k ts=[]
 | [],k=>by rw [jv]
 | t::r,k=>by
  have ht:(h=="try")=false:=by
   unfold yW at hc;rw [De,De] at hc;exact hc.2.2
  rw [jv,YW hc r,hc,ht];rfl
theorem qht {h:Str} {ts:List Aa} (hl:(h=="let")=false) (hc:yW h=false):brS (.tuple (.str h::ts))=[]:=by
 cases ts with
 | nil=>rw [brS];intro h t r z;cases z
 | cons t r=>rw [brS,hl,YW hc];rfl
def own:Aa→List Str
 | .tuple (.str h::t::_)=>if h=="name"||h=="set" then [txt t] else []
 | _=>[]
def qlc (d:Aa):Bool:=headOf d=="fun"||headOf d=="loop"
def Yq:Nat→Aa→List Str
 | 0,_=>[]
 | n+1,d=>if qlc d=true then [] else own d++(jY d).flatMap (Yq n)
@[irreducible] def qh2:Box (Nat→Aa→List Str):=⟨Yq⟩
def Y8 (n:Nat) (d:Aa):List Str:=qh2.val n d
theorem Y7 (n:Nat) (d:Aa):Y8 n d=Yq n d:=by
 unfold Y8 qh2;rfl
theorem V4 (n:Nat) (d:Aa):Y8 (n+1) d=if qlc d=true then [] else own d++(jY d).flatMap (Y8 n):=by
 have e:Y8 n=Yq n:=funext fun d=>Y7 n d;rw [Y7,Yq,e]
theorem YO {α β:Type} {f g:α→List β}:∀ (l:List α),(∀ e∈l,f e=g e)→l.flatMap f=l.flatMap g
 | [],_=>rfl
 | e::r,h=>by
  rw [Cv,Cv,h e Au,YO r fun e he=>h e (Ao _ he)]
theorem qf7:∀ (n:Nat) {d:Aa} {s t:Nat},Tr d s t→t≤n→Y8 n d=Y8 (n+1) d
 | 0,d,s,t,h,ht=>by
  cases h;omega
 | n+1,d,s,t,h,ht=>by
  cases h with
  | mk hf tl=>
   rw [V4,V4];rw [YO (jY d) fun e he=>?_];obtain ⟨s',t',h',_,h2⟩:=tl.mem e he;exact qf7 n h' ⋯
theorem qi6 (d:Aa):(own d).length≤1:=by
 unfold own;split
 ·split <;> simp
 ·simp
mutual
theorem Tr.uses_le:∀ {d:Aa} {s t:Nat} (n:Nat),Tr d s t→(Y8 n d).length≤s
 | d,_,_,0,h=>by
  rw [Y7,Yq];exact Bm _
 | d,_,_,n+1,.mk hf tl=>by
  rw [V4];split
  ·exact Bm _
  ·rw [Ak];have a:=qi6 d;have b:=Trl.uses_le n tl;omega
theorem Trl.uses_le:∀ {ds:List Aa} {s t:Nat} (n:Nat),Trl ds s t→(ds.flatMap (Y8 n)).length≤s
 | _,_,_,n,.nil=>by simp
 | _,_,_,n,.cons h1 h2=>by
  rw [Cv,Ak];have a:=Tr.uses_le n h1;have b:=Trl.uses_le n h2;omega
end
structure Row where
 names:List Str
 used:List Str
 outer:Option Nat
 kind:Str
def items:Aa→List Aa
 | .tuple xs=>xs
 | _=>[]
def up (rs:List Row):Nat→Nat→Str→Option Nat
 | 0,_,_=>none
 | n+1,i,x=>match rs[i]? with
  | none=>none
  | some r=>if r.names.contains x=true then some i else match r.outer with
   | none=>none
   | some j=>up rs n j x
def qjp (rs:List Row) (i:Nat) (x:Str):Option Nat:=up rs (i+1) i x
def Back (rs:List Row):Prop:=∀ (i:Nat) (r:Row),rs[i]?=some r→∀ j,r.outer=some j→j<i
theorem qf8 {rs:List Row} (ho:Back rs) {x:Str}:∀ (n m i:Nat),i<n→i<m→up rs n i x=up rs m i x
 | 0,_,_,h,_=>absurd h (Nat.not_lt_zero _)
 | _,0,_,_,h=>absurd h (Nat.not_lt_zero _)
 | n+1,m+1,i,h1,h2=>by
  rw [up,up];cases e:rs[i]? with
  | none=>rfl
  | some r=>
   dsimp only;split
   ·rfl
   ·cases e2:r.outer with
    | none=>rfl
    | some j=>
     have:=ho i r e j e2;exact qf8 ho n m j ⋯ ⋯
set_option tactic.hygienic true in
theorem QP {rs:List Row} {x:Str}:∀ (n i:Nat) {k:Nat},up rs n i x=some k→∃ r,rs[k]?=some r∧r.names.contains x=true
 | 0,_,_,h=>by cases h
 | n+1,i,k,h=>by
  rw [up] at h;cases e:rs[i]? with
  | none=>rw [e] at h;cases h
  | some r=>
   rw [e] at h;dsimp only at h;split at h
   ·rename_i hc;cases h;exact ⟨r,e,hc⟩
   ·cases e2:r.outer with
    | none=>rw [e2] at h;cases h
    | some j=>rw [e2] at h;exact QP n j h
def X7:List Str→List Str→List Str
 | _,[]=>[]
 | seen,x::r=>if seen.contains x=true then x::X7 (seen++[x]) r else X7 (seen++[x]) r
def lost (rs:List Row) (i:Nat) (l:List Str):List Str:=l.filter fun x=>(qjp rs i x).isNone
def bad (rs:List Row) (i:Nat) (r:Row):List Str:=X7 [] r.names++lost rs i r.used
def V2 (rs:List Row):Nat→List Row→Option Str
 | _,[]=>none
 | i,r::q=>match bad rs i r with
  | []=>V2 rs (i+1) q
  | x::_=>some x
set_option tactic.hygienic true in
theorem qbe:∀ (l seen:List Str),X7 seen l=[]→seen.Nodup→(seen++l).Nodup
 | [],seen,_,h=>by rw [Bi];exact h
 | x::r,seen,h,hs=>by
  rw [X7] at h;split at h
  ·cases h
  ·rename_i hc;have e:seen++x::r=(seen++[x])++r:=by rw [Bl];rfl
   rw [e];refine qbe r (seen++[x]) h ?_;rw [List.nodup_append];refine ⟨hs,by simp,fun a ha b hb=>?_⟩
   cases A0.mp hb;intro z;subst z;exact hc (Cn.mpr ha)
theorem ZZ {rs:List Row}:∀ (l:List Row) (i:Nat),V2 rs i l=none→∀ k r,l[k]?=some r→bad rs (i+k) r=[]
 | [],i,_,k,r,h=>by simp at h
 | q::l,i,h,k,r,hk=>by
  rw [V2] at h;cases e:bad rs i q with
  | cons x y=>rw [e] at h;cases h
  | nil=>
   rw [e] at h;cases k with
   | zero=>cases hk;exact e
   | succ k=>
    rw [List.getElem?_cons_succ] at hk;have:=ZZ l (i+1) h k r hk;rw [show i+(k+1)=i+1+k from ⋯];exact this
structure FnW (e:Aa) (i:Nat):Prop where
 ex:∃ h ns xs o s t,e= .tuple [.str h,.tuple ns,.tuple xs,o]∧ns.all qY=true∧ns.length≤4∧Trl xs s t∧s≤300∧t≤20∧(o= .none∨∃ j:Nat,o= .int (j:Nat)∧j<i)
def qhz (acc:List Aa):Prop:=∀ i e,acc[i]?=some e→FnW e i
def qcr (o:Aa) (n:Nat):Prop:=o= .none∨∃ j:Nat,o= .int (j:Nat)∧j<n
theorem qe7:∀ p∈forms,holds p.1=true→p.2=(["names","body"]:List Str):=by
 have h:(forms.all fun p=>!holds p.1||decide (p.2=(["names","body"]:List Str)))=true:=∅;intro p hp hh;have q:=A4.mp h p hp;rw [hh] at q;exact A3 q
theorem qfa {d:Aa} {sh:Str} {hands:Bool} (h:qQ d sh hands=true) (hh:isFn d=true):∃ hd ns xs,d= .tuple [.str hd,.tuple ns,.tuple xs]∧ns.all qY=true∧ns.length≤4∧jY d=xs:=by
 obtain ⟨hd,ts,fs,l,rfl,_,_,e,_,hl,hs,_⟩:=qK h;have h2:=qe7 _ (A5 e) hh;dsimp only at h2;subst h2
 match ts,hl with
 | [a,b],_=>
  have ha:=hs (a,"names") (by simp)
  have hb:=hs (b,"body") (by simp)
  dsimp only at ha hb;rw [Ja] at ha;rw [jD] at hb;cases a with
  | tuple ns=>
   cases b with
   | tuple xs=>
    simp only [areNames,Al] at ha;refine ⟨hd,ns,xs,rfl,ha.1.2,A3 ha.1.1,?_⟩;unfold jY;rw [qN e];show ((qm _ _++(qm _ _++[])).map _)=xs;rw [jT (sh:="names") ∅,zI,B2,Bi,Bv];exact List.map_id _
   | _=>cases hb
  | _=>cases ha
set_option tactic.hygienic true in
theorem qcq {d o:Aa} {s t:Nat} {acc:List Aa} (h:Tr d s t) (hs:s≤300) (ht:t≤20) (ho:qcr o acc.length) (ha:qhz acc):qhz (Jl d o acc)∧qcr (wG d o acc) (Jl d o acc).length∧acc.length≤(Jl d o acc).length:=by
 unfold Jl wG;split
 ·rename_i hh;cases h with
  | @mk _ sh hands s0 t0 hf tl=>
   obtain ⟨hd,ns,xs,rfl,h1,h2,h3⟩:=qfa hf hh;refine ⟨fun i e he=>?_,.inr ⟨acc.length,rfl,by simp⟩,by simp⟩
   by_cases hi:i<acc.length
   ·rw [List.getElem?_append_left hi] at he;exact ha i e he
   ·rw [List.getElem?_append_right ⋯] at he;have hz:i - acc.length=0:=by
     cases q:i - acc.length with
     | zero=>rfl
     | succ k=>rw [q] at he;simp at he
    have hi2:i=acc.length:=⋯;rw [hz] at he;cases he;rw [h3] at tl;subst hi2;exact ⟨hd,ns,xs,o,s0,t0,rfl,h1,h2,tl,⋯,⋯,ho⟩
 ·exact ⟨ha,ho,Ax _⟩
theorem qcr.mono {o:Aa} {n m:Nat} (h:qcr o n) (hm:n≤m):qcr o m:=by
 rcases h with h | ⟨j,e,h⟩
 ·exact .inl h
 ·exact .inr ⟨j,e,⋯⟩
theorem qca:∀ (n:Nat) {ds:List Aa} {s t:Nat} (o:Aa) (acc:List Aa),Trl ds s t→s≤300→t≤20→qcr o acc.length→qhz acc→qhz (Wa n ds o acc)∧acc.length≤(Wa n ds o acc).length
 | 0,ds,s,t,o,acc,h,hs,ht,ho,ha=>by
  have e:=wv ds o acc;rw [e];exact ⟨ha,Ax _⟩
 | n+1,ds,s,t,o,acc,h,hs,ht,ho,ha=>by
  induction ds generalizing s t acc with
  | nil=>exact ⟨ha,Ax _⟩
  | cons d r ih=>
   cases h with
   | @cons _ _ s1 t1 s2 t2 h1 h2=>
    unfold Wa;rw [B8,J3];obtain ⟨a1,a2,a3⟩:=qcq (o:=o) h1 ⋯ ⋯ ho ha;cases h1 with
    | @mk _ sh hands s0 t0 hf tl=>
     obtain ⟨b1,b2⟩:=qca n (wG d o acc) (Jl d o acc) tl ⋯ ⋯ a2 a1;obtain ⟨c1,c2⟩:=ih _ _ (Wa n (jY d) (wG d o acc) (Jl d o acc)) h2 ⋯ ⋯ (ho.mono ⋯) b1;exact ⟨c1,Aw a3 (Aw b2 c2)⟩
theorem Trl.split:∀ {a b:List Aa} {s t:Nat},Trl (a++b) s t→∃ s1 t1 s2 t2,Trl a s1 t1∧Trl b s2 t2∧s=s1+s2∧t1≤t∧t2≤t
 | [],b,s,t,h=>⟨0,0,s,t,.nil,h,(Nat.zero_add _).symm,Bm _,Ax _⟩
 | x::a,b,_,_,.cons (s:=s0) (t:=t0) h1 h2=>by
  obtain ⟨s1,t1,s2,t2,p,q,e,l1,l2⟩:=Trl.split h2;exact ⟨s0+s1,max t0 t1,s2,t2,.cons h1 p,q,⋯,⋯,⋯⟩
inductive Stm:Aa→Nat→Nat→Prop
 | let_ {x:Str} {a:Aa} {s t:Nat}:qG x=true→Stm (.tuple [.str "let",.str x,a]) s t
 | if_ {a:Aa} {xs ys:List Aa} {s t s1 t1 s2 t2:Nat}:xs.length≤12→ys.length≤12→Trl xs s1 t1→Trl ys s2 t2→s1+s2<s→t1<t→t2<t→Stm (.tuple [.str "if",a,.tuple xs,.tuple ys]) s t
 | while_ {a:Aa} {xs:List Aa} {s t s1 t1:Nat}:xs.length≤12→Trl xs s1 t1→s1<s→t1<t→Stm (.tuple [.str "while",a,.tuple xs]) s t
 | try_ {b c:Str} {xs ys zs:List Aa} {s t s1 t1 s2 t2 s3 t3:Nat}:qG c=true→xs.length≤12→ys.length≤12→zs.length≤12→Trl xs s1 t1→Trl ys s2 t2→Trl zs s3 t3→s1+s2+s3<s→t1<t→t2<t→t3<t→Stm (.tuple [.str "try",.tuple xs,.str b,.str c,.tuple ys,.tuple zs]) s t
 | else_ {hd:Str} {ts:List Aa} {s t:Nat}:hd≠"let"→hd≠"if"→hd≠"while"→hd≠"try"→ts≠[]→Stm (.tuple (.str hd::ts)) s t
theorem Vb {d:Aa} (h:qi d "body"=true):∃ xs,d= .tuple xs∧xs.length≤12:=by
 rw [jD] at h;cases d with
 | tuple xs=>exact ⟨xs,rfl,A3 h⟩
 | _=>cases h
theorem zR {d:Aa} (h:qi d "name"=true):∃ x,d= .str x∧qG x=true:=by
 rw [jl] at h;cases d with
 | str x=>exact ⟨x,rfl,h⟩
 | _=>cases h
theorem v3 {u:Str} (xs:List Aa):(xs.map fun x=>(x,u)).map (·.1)=xs:=by
 rw [Bv];exact List.map_id _
theorem qin {d:Aa} {s t:Nat} (h:Tr d s t):Stm d s t:=by
 cases h with
 | @mk _ sh hands s0 t0 hf tl=>
  obtain ⟨hd,ts,fs,l,rfl,_,_,e,_,hl,hs,_⟩:=qK hf;have ek:jY (.tuple (.str hd::ts))=((ts.zip fs).flatMap fun p=>qm p.1 p.2).map (·.1):=by unfold jY;rw [qN e]
  rw [ek] at tl
  by_cases h1:hd="let"
  ·subst h1;have e2:forms.lookup ("let":Str)=some (["name","term"]:List Str):=∅;cases e.symm.trans e2
   match ts,hl,hs,tl with
   | [a,b],_,hs,tl=>
    obtain ⟨x,rfl,hx⟩:=zR (hs (a,"name") (by simp))
    exact .let_ hx
  by_cases h2:hd="if"
  ·subst h2;have e2:forms.lookup ("if":Str)=some (["term","body","body"]:List Str):=∅;cases e.symm.trans e2
   match ts,hl,hs,tl with
   | [a,b,c],_,hs,tl=>
    obtain ⟨xs,rfl,hx⟩:=Vb (hs (b,"body") (by simp))
    obtain ⟨ys,rfl,hy⟩:=Vb (hs (c,"body") (by simp))
    replace tl:Trl ((qm a "term"++(qm (.tuple xs) "body"++(qm (.tuple ys) "body"++[]))).map Prod.fst) s0 t0:=tl
    rw [jj,zI,zI,A1,A1,Bi,v3,v3] at tl;obtain ⟨s1,t1,s2,t2,p,q,e3,l1,l2⟩:=tl.split;obtain ⟨s3,t3,s4,t4,p2,q2,e4,l3,l4⟩:=q.split;exact .if_ hx hy p2 q2 ⋯ ⋯ ⋯
  by_cases h3:hd="while"
  ·subst h3;have e2:forms.lookup ("while":Str)=some (["term","body"]:List Str):=∅;cases e.symm.trans e2
   match ts,hl,hs,tl with
   | [a,b],_,hs,tl=>
    obtain ⟨xs,rfl,hx⟩:=Vb (hs (b,"body") (by simp))
    replace tl:Trl ((qm a "term"++(qm (.tuple xs) "body"++[])).map Prod.fst) s0 t0:=tl
    rw [jj,zI,A1,Bi,v3] at tl;obtain ⟨s1,t1,s2,t2,p,q,e3,l1,l2⟩:=tl.split;exact .while_ hx q ⋯ ⋯
  by_cases h4:hd="try"
  ·subst h4;have e2:forms.lookup ("try":Str)=some (["body","name","name","body","body"]:List Str):=∅;cases e.symm.trans e2
   match ts,hl,hs,tl with
   | [a,b,c,g,k],_,hs,tl=>
    obtain ⟨xs,rfl,hx⟩:=Vb (hs (a,"body") (by simp))
    obtain ⟨b,rfl,_⟩:=zR (hs (b,"name") (by simp))
    obtain ⟨c,rfl,hc⟩:=zR (hs (c,"name") (by simp))
    obtain ⟨ys,rfl,hy⟩:=Vb (hs (g,"body") (by simp))
    obtain ⟨zs,rfl,hz⟩:=Vb (hs (k,"body") (by simp))
    replace tl:Trl ((qm (.tuple xs) "body"++(qm (.str b) "name"++(qm (.str c) "name"++(qm (.tuple ys) "body"++(qm (.tuple zs) "body"++[]))))).map Prod.fst) s0 t0:=tl
    rw [zI,zI,zI,jT (sh:="name") ∅,jT (sh:="name") ∅,B2,B2,A1,A1,Bi,v3,v3,v3] at tl;obtain ⟨s1,t1,s2,t2,p,q,e3,l1,l2⟩:=tl.split;obtain ⟨s3,t3,s4,t4,p2,q2,e4,l3,l4⟩:=q.split;exact .try_ hc hx hy hz p p2 q2 ⋯ ⋯ ⋯ ⋯
  refine .else_ h1 h2 h3 h4 fun z=>?_;subst z;have all:∀ p∈forms,p.2≠[]:=by
   have q:(forms.all fun p=>decide (p.2≠[]))=true:=∅;exact fun p hp=>A3 (A4.mp q p hp)
  have:=all _ (A5 e);cases fs with
  | nil=>exact this rfl
  | cons _ _=>cases hl
theorem qhq {hd:Str} {ts:List Aa} (h1:hd≠"let") (h2:hd≠"if") (h3:hd≠"while") (h4:hd≠"try"):brS (.tuple (.str hd::ts))=[]:=by
 refine qht (Bf.mpr h1) ?_;unfold yW;rw [Bf.mpr h2,Bf.mpr h3,Bf.mpr h4];rfl
theorem qj1 {n:Nat} (IH:∀ {xs:List Aa} {s t:Nat},Trl xs s t→t≤n→(brL xs).length≤s) {x:Aa} {s0 t0:Nat} (h1:Tr x s0 t0) (ht:t0≤n+1):(brS x).length≤s0:=by
 have pos:0<s0:=by cases h1;omega
 cases qin h1 with
 | let_ _=>rw [qj0];exact pos
 | if_ _ _ p q e l1 l2=>
  have:=IH p ⋯;have:=IH q ⋯;rw [qlp,Ak];omega
 | while_ _ p e l1=>
  have:=IH p ⋯;rw [qfs];omega
 | try_ _ _ _ _ p q r e l1 l2 l3=>
  have:=IH p ⋯;have:=IH q ⋯;have:=IH r ⋯;rw [qjz,Ak,Aj,Ak];omega
 | else_ k1 k2 k3 k4 _=>
  rw [qhq k1 k2 k3 k4];exact Bm _
theorem qft {m:Nat} (E:∀ {x:Aa} {s t:Nat},Tr x s t→t≤m→(brS x).length≤s):∀ {xs:List Aa} {s t:Nat},Trl xs s t→t≤m→(brL xs).length≤s
 | [],_,_,_,_=>by
  rw [brL];exact Bm _
 | x::r,_,_,.cons h1 h2,ht=>by
  rw [brL,Ak];exact Nat.add_le_add (E h1 (Aw (Nat.le_max_left _ _) ht)) (qft E h2 (Aw (Nat.le_max_right _ _) ht))
theorem qlo:∀ (n:Nat) {xs:List Aa} {s t:Nat},Trl xs s t→t≤n→(brL xs).length≤s
 | 0,xs,s,t,h,ht=>by
  have:t=0:=⋯;subst this;cases h.zero;exact Bm _
 | n+1,_,_,_,h,ht=>qft (qj1 (qlo n)) h ht
def qlq (h:Str) (k:Nat) (t:Aa):List Str:=(if h=="try"&&k==3 then [txt t] else [])++(if yW h&&(YJ t&&(decide (1<k)||h=="try")) then brB t else [])
theorem qco (h:Str) (t:Aa):∀ (l:List Aa) (k:Nat),jv h k (l++[t])=jv h k l++qlq h (k+l.length) t
 | [],k=>by
  rw [B2,jv,jv,jv,B2,Bi];rfl
 | y::r,k=>by
  rw [Cc,jv,jv,qco h t r (k+1),Bl,Bl,Aj]
  congr 3
  rw [show k+1+r.length=k+(r.length+1) from ⋯]
theorem ZT (h:Str) (b:List Aa):∀ (a:List Aa) (k:Nat),jv h k (a++b)=jv h k a++jv h (k+a.length) b
 | [],k=>by
  rw [B2,jv,B2];rfl
 | y::r,k=>by
  rw [Cc,jv,jv,ZT h b r (k+1),Bl,Bl,Aj,show k+1+r.length=k+(r.length+1) from ⋯]
theorem Tr.el {G:Prop} {d:Aa} {s t:Nat} (h:Tr d s t) (k:∀ sh hands s0 t0,s=s0+1→t=t0+1→qQ d sh hands=true→Trl (jY d) s0 t0→G):G:=by
 cases h with
 | mk h l=>exact k _ _ _ _ rfl rfl h l
theorem Pt.el {G:Prop} {d:Aa} {sh:Str} {hands:Bool} {s t:Nat} (h:Pt d sh hands s t) (k:∀ s0 t0,s=s0+1→t=t0+1→qQ d sh hands=true→Ptl (jx d) (Jg d hands) s0 t0→G):G:=by
 cases h with
 | mk h l=>exact k _ _ rfl rfl h l
theorem Ptl.el {G:Prop} {d:Aa} {u:Str} {r:List (Aa×Str)} {hands:Bool} {s t:Nat} (h:Ptl ((d,u)::r) hands s t) (k:∀ s1 t1 s2 t2,s=s1+s2→t=max t1 t2→Pt d u hands s1 t1→Ptl r hands s2 t2→G):G:=by
 cases h with
 | cons h l=>exact k _ _ _ _ rfl rfl h l
end Tre
namespace Nam
open PySem
def one (c:Nat):Str:=⟨#[c]⟩
def low (c:Nat):Bool:=decide (97≤c)&&decide (c≤122)
def wrd (cs:List Nat):Str:=⟨cs.toArray⟩
theorem Q3 {a b:List Nat} (h:wrd a=wrd b):a=b:=by
 have e:(wrd a).cps=(wrd b).cps:=by rw [h]
 exact congrArg Array.toList e
theorem qf4 (cs:List Nat):(wrd cs).length=cs.length:=by simp [wrd,Str.length]
theorem YH:∀ cs:List Nat,(Str.join (Str.ofString "") (cs.map one)).cps.toList=cs
 | []=>∅
 | [c]=>rfl
 | c::d::r=>by
  have ih:=YH (d::r);rw [As] at ih;show ((one c)++Str.ofString ""++Str.join (Str.ofString "") (one d::r.map one)).cps.toList=_;have e:∀ a b:Str,(a++b).cps.toList=a.cps.toList++b.cps.toList:=fun a b=>by
   show (a.cps++b.cps).toList=_;simp
  rw [e,e,ih];rfl
theorem ZH (cs:List Nat):Txt.join (Str.ofString "") (cs.map one)=wrd cs:=by
 rw [Az.mp (PyProof.Rows.join_plain_closes (Str.ofString "") _)];have h:=YH cs;generalize Str.join (Str.ofString "") (cs.map one)=x at h;cases x with
 | mk a=>subst h;rfl
theorem Zs (cs:List Nat):((cs.map one).map (·.length)).sum=cs.length:=by
 induction cs with
 | nil=>rfl
 | cons c r ih=>
  rw [As,As,B9,ih,Aj];show 1+_=_;omega
theorem ZE {cs:List Nat} (h1:1≤cs.length) (h8:cs.length≤8) (h:cs.all low=true):Tre.qG (wrd cs)=true:=by
 unfold Tre.qG;rw [qf4,An h1,An h8];exact h
theorem wf {α β:Type} (f:α→β):∀ {l:List α},l.Nodup→(∀ a∈l,∀ b∈l,f a=f b→a=b)→(l.map f).Nodup
 | [],_,_=>List.nodup_nil
 | x::r,h,hi=>by
  rw [Cr] at h;rw [As,Cr];refine ⟨fun hm=>?_,wf f h.2 fun a ha b hb=>hi a (Ao _ ha) b (Ao _ hb)⟩;obtain ⟨y,hy,e⟩:=Bo.mp hm;have:=hi y (Ao _ hy) x Au e;exact h.1 (this▸hy)
theorem qj3 (cs:List Nat) (h:cs.length=8):((List.range 8).map fun k=>wrd (cs.take (k+1))).Nodup:=by
 refine wf _ List.nodup_range fun a ha b hb e=>?_;have e1:=congrArg List.length (Q3 e);rw [B4,B4] at e1;have:=Dj.mp ha;have:=Dj.mp hb;omega
theorem qlr (cs:List Nat) (j z:Nat) (g:Nat→Nat) (hj:j<z) (hz:z≤cs.length) (hg:∀ a b,a<8→b<8→g a=g b→a=b):((List.range 8).map fun k=>wrd ((cs.set j (g k)).take z)).Nodup:=by
 refine wf _ List.nodup_range fun a ha b hb e=>?_;have e1:=Q3 e;have e2:((cs.set j (g a)).take z)[j]?=((cs.set j (g b)).take z)[j]?:=by rw [e1]
 rw [List.getElem?_take,List.getElem?_take,if_pos hj,if_pos hj,List.getElem?_set,List.getElem?_set,if_pos rfl,if_pos rfl,if_pos ⋯,if_pos ⋯] at e2;exact hg a b (Dj.mp ha) (Dj.mp hb) (Bb e2)
end Nam
namespace Sho
open PySem
theorem str_ext {x y:Str} (h:x.cps.toList=y.cps.toList):x=y:=by
 obtain ⟨a⟩:=x;obtain ⟨b⟩:=y;exact congrArg Str.mk (Array.ext' h)
theorem cps_app (x y:Str):(x++y).cps.toList=x.cps.toList++y.cps.toList:=Em
theorem jw (x y z:Str):x++y++z=x++(y++z):=str_ext (by rw [cps_app,cps_app,cps_app,cps_app,Bl])
theorem JL (x:Str):x++("":Str)=x:=str_ext (by rw [cps_app];exact Bi _)
theorem vh (x:Str):("":Str)++x=x:=str_ext (by rw [cps_app];rfl)
def tight (p w:Str):Bool:=p=="("||w==")"
def glue (p w:Str):Str:=(if tight p w=true then "" else " ")++w
def run:Str→List Str→Str
 | _,[]=>""
 | p,w::r=>glue p w++run w r
def tx:List Str→Str
 | []=>""
 | w::r=>w++run w r
def zE:Str→List Str→Str
 | p,[]=>p
 | _,w::r=>zE w r
theorem run_app:∀ (a b:List Str) (p:Str),run p (a++b)=run p a++run (zE p a) b
 | [],b,p=>(vh _).symm
 | w::r,b,p=>by
  rw [Cc,run,run,zE,run_app r b w,jw]
theorem JY:∀ (a b:List Str) (p:Str),zE p (a++b)=zE (zE p a) b
 | [],_,_=>rfl
 | w::r,b,p=>JY r b w
def One (ws:List Str):Prop:=∃ w r,ws=w::r∧w≠")"∧zE w r≠"("
theorem One.word {w:Str} (h1:w≠")") (h2:w≠"("):One [w]:=⟨w,[],rfl,h1,h2⟩
theorem One.par (a:List Str):One ("("::(a++[(")":Str)])):=⟨"(",a++[(")":Str)],rfl,∅,by
 rw [JY];show (")":Str)≠"(";decide+kernel⟩
theorem qac {ws:List Str} {p:Str} (h:One ws):run p ws=(if p="(" then "" else " ")++tx ws:=by
 obtain ⟨w,r,rfl,h1,_⟩:=h;rw [run,tx,glue,jw]
 congr 1
 unfold tight
 by_cases hp:p="("
 ·rw [if_pos hp,if_pos (by rw [Az.mpr hp];rfl)]
 ·rw [if_neg hp,if_neg (by rw [Bt,Az,Az];exact fun z=>z.elim hp h1)]
theorem jQ {ws:List Str} {p:Str} (h:One ws):zE p ws≠"(":=by
 obtain ⟨w,r,rfl,_,h2⟩:=h;exact h2
def more:List (List Str)→Str
 | []=>""
 | i::r=>" "++(tx i++more r)
theorem Zl:∀ (is:List (List Str)) (p:Str),p≠"("→(∀ i∈is,One i)→run p is.flatten=more is∧zE p is.flatten≠"("
 | [],p,hp,_=>⟨rfl,hp⟩
 | i::r,p,hp,h=>by
  have hi:=h i Au;obtain ⟨a,b⟩:=Zl r (zE p i) (jQ hi) fun j hj=>h j (Ao _ hj);rw [Bp,run_app,JY,qac hi,if_neg hp,a,more,jw];exact ⟨rfl,b⟩
def wn:List (List Str)→Str
 | []=>""
 | i::r=>tx i++more r
theorem qc2 (is:List (List Str)) (h:∀ i∈is,One i):tx ("("::(is.flatten++[(")":Str)]))="("++(wn is++")"):=by
 rw [tx,run_app]
 congr 1
 cases is with
 | nil=>
  show run "(" []++run "(" [")"]=_;rw [run,wn,run,run,glue];rw [if_pos ∅,vh,vh,JL]
 | cons i r=>
  have hi:=h i Au;obtain ⟨a,b⟩:=Zl r (zE "(" i) (jQ hi) fun j hj=>h j (Ao _ hj);rw [Bp,run_app,JY,qac hi,if_pos rfl,vh,a,wn,run,run,glue,JL,if_pos (by unfold tight;rw [Bt];exact .inr rfl),vh]
theorem XB:∀ is:List (List Str),wn is=Str.join " " (is.map tx)
 | []=>rfl
 | [i]=>by
  rw [wn,more,JL];rfl
 | i::j::r=>by
  have ih:=XB (j::r);rw [wn] at ih;show tx i++(" "++(tx j++more r))=tx i++" "++Str.join " " ((j::r).map tx);rw [ih,jw]
theorem len_app (x y:Str):(x++y).length=x.length+y.length:=by
 show (x++y).cps.size=x.cps.size+y.cps.size;rw [← Bn,cps_app,Ak,Bn,Bn]
theorem qe1 (p w:Str):(glue p w).length≤w.length+1:=by
 unfold glue;rw [len_app];split
 ·show (0:Nat)+w.length≤_;omega
 ·show (1:Nat)+w.length≤_;omega
theorem qad:∀ (ws:List Str) (p:Str),(run p ws).length≤(ws.map fun w=>w.length+1).sum
 | [],_=>Ax _
 | w::r,p=>by
  rw [run,len_app,As,B9];exact Nat.add_le_add (qe1 p w) (qad r w)
theorem qc3 (ws:List Str):(tx ws).length≤(ws.map fun w=>w.length+1).sum:=by
 cases ws with
 | nil=>exact Ax _
 | cons w r=>
  rw [tx,len_app,As,B9];exact Nat.add_le_add (Ex _) (qad r w)
end Sho
namespace Sho
open PySem Tre
abbrev opened:List Str:=["main","fun","loop","call"]
def strOf:Aa→Str
 | .str x=>x
 | .int i=>Str.ofString (toString i)
 | _=>""
section
variable (f:Aa→List Str)
def wT0 (sh:Str) (t:Aa):List Str:=if (sh=="term"||sh=="statement")=true then f t else [strOf t]
def mem (sh:Str):Aa→List (List Str)
 | .tuple xs=>xs.map (wT0 f ((members.lookup sh).getD ""))
 | _=>[]
def wT (sh:Str) (t:Aa):List Str:=if (members.lookup sh).isSome=true then "("::((mem f sh t).flatten++[(")":Str)]) else wT0 f sh t
def itm (h last:Str) (p:Aa×Str):List (List Str):=if (opened.contains h&&p.2==last)=true then mem f p.2 p.1 else [wT f p.2 p.1]
def items (h:Str) (ts:List Aa):List (List Str):=(if (h=="two")=true then [] else [[h]])++(ts.zip ((forms.lookup h).getD [])).flatMap (itm f h (((forms.lookup h).getD []).getLastD ""))
end
def wP0:Nat→Aa→List Str
 | n+1,.tuple (.str h::ts)=>if (h=="number"||h=="name")=true then [strOf (ts.headD .none)] else "("::((items (wP0 n) h ts).flatten++[(")":Str)])
 | _,_=>[]
@[irreducible] def wPB:Box (Nat→Aa→List Str):=⟨wP0⟩
def wP (n:Nat) (d:Aa):List Str:=wPB.val n d
theorem qh0 (n:Nat) (d:Aa):wP n d=wP0 n d:=by
 unfold wP wPB;rfl
theorem wP_part (n:Nat) (h:Str) (ts:List Aa):wP (n+1) (.tuple (.str h::ts))=if (h=="number"||h=="name")=true then [strOf (ts.headD .none)] else "("::((items (wP n) h ts).flatten++[(")":Str)]):=by
 have e:wP n=wP0 n:=funext fun d=>qh0 n d;rw [qh0,wP0,e]
theorem name_nb {x:Str} (h:qG x=true):x≠"("∧x≠")":=by
 constructor
 ·rintro rfl;exact absurd h ∅
 ·rintro rfl;exact absurd h ∅
theorem W8 (i:Int):Str.ofString (toString i)≠"("∧Str.ofString (toString i)≠")":=by
 have a:=PyProof.Rows.intText_free_40 i;have b:=PyProof.Rows.intText_free_41 i;constructor
 ·intro e;rw [e] at a;exact absurd a ∅
 ·intro e;rw [e] at b;exact absurd b ∅
theorem VG {x:Aa} (h:qi x "number"=true∨qi x "name"=true):strOf x≠"("∧strOf x≠")":=by
 rcases h with h | h
 ·have e:qi x "number"=zZ x:=rfl;rw [e] at h;cases x with
  | int i=>exact W8 i
  | _=>cases h
 ·obtain ⟨y,rfl,hy⟩:=zR h;exact name_nb hy
theorem qeg {n:Nat} {d:Aa} {s t:Nat} (h:Tr d s t):One (wP (n+1) d):=h.el fun sh hands s0 t0 _ _ hf _=>by
 obtain ⟨hd,ts,fs,l,rfl,_,_,e,_,hl,hs,_⟩:=qK hf;rw [wP_part]
 by_cases c:(hd=="number"||hd=="name")=true
 ·rw [if_pos c];have q:∃ x r,ts=x::r∧(qi x "number"=true∨qi x "name"=true):=by
   rw [Bt,Az,Az] at c;rcases c with rfl | rfl
   ·have e2:forms.lookup ("number":Str)=some (["number"]:List Str):=∅;cases e.symm.trans e2
    match ts,hl,hs with
    | [x],_,hs=>exact ⟨x,[],rfl,.inl (hs (x,"number") (by simp))⟩
   ·have e2:forms.lookup ("name":Str)=some (["name"]:List Str):=∅;cases e.symm.trans e2
    match ts,hl,hs with
    | [x],_,hs=>exact ⟨x,[],rfl,.inr (hs (x,"name") (by simp))⟩
  obtain ⟨x,r,rfl,hx⟩:=q;exact .word (VG hx).2 (VG hx).1
 ·rw [if_neg c];exact .par _
theorem JW {t:Aa} {sh:Str} (h:qi t sh=true) (hs:sh∈(["number","name","word","sign"]:List Str)):strOf t≠"("∧strOf t≠")":=by
 simp only [Ap,A2,or_false] at hs;rcases hs with rfl | rfl | rfl | rfl
 ·exact VG (.inl h)
 ·exact VG (.inr h)
 ·cases t with
  | str x=>
   have e:qi (.str x) "word"=(qG x&&x !="any"):=rfl;rw [e,Al] at h;exact name_nb h.1
  | _=>cases h
 ·cases t with
  | str x=>
   have e:qi (.str x) "sign"=signs.any fun y=>y==x:=rfl;rw [e] at h;obtain ⟨y,hy,hx⟩:=C4.mp h;have q:∀ y∈signs,y≠"("∧y≠")":=∅;rw [← show y=x from Az.mp hx];exact q y hy
  | _=>cases h
theorem qbp:∀ p∈forms,∀ sh∈p.2,sh∈(["names","body","number","name","sign","term","terms","word"]:List Str):=∅
theorem XA:∀ p∈forms,opened.contains p.1=true→p.2.getLastD ""="body"∨p.2.getLastD ""="terms":=∅
set_option tactic.hygienic true in
def wl (ws:List Str):Nat:=(ws.map fun w=>w.length+1).sum
theorem wl_app (a b:List Str):wl (a++b)=wl a+wl b:=by
 unfold wl;rw [A1,Dr]
theorem wl_cons (w:Str) (a:List Str):wl (w::a)=w.length+1+wl a:=rfl
theorem wl_par (a:List Str):wl ("("::(a++[(")":Str)]))=wl a+4:=by
 rw [wl_cons,wl_app];show 1+1+(wl a+(1+1+0))=_;omega
def wls (is:List (List Str)):Nat:=(is.map wl).sum
theorem J2:∀ is:List (List Str),wl is.flatten=wls is
 | []=>rfl
 | i::r=>by
  rw [Bp,wl_app,J2 r];rfl
theorem name_wl {x:Str} (h:qG x=true):wl [x]≤9:=by
 unfold qG at h;rw [Al,Al] at h;have:=A3 h.1.2;show x.length+1+0≤9;omega
def wZ (f:Aa→List Str) (zs:List (Aa×Str)):Nat:=(zs.map fun z=>wl (f z.1)).sum
theorem QE {f:Aa→List Str} {x:Aa} {u:Str} (hu:u="body"∨u="terms"):wls (mem f u x)=wZ f (qm x u):=by
 cases x with
 | tuple xs=>
  have e:∀ m:Str,(m=="term"||m=="statement")=true→wls (xs.map (wT0 f m))=wZ f (xs.map fun z=>(z,m)):=fun m hm=>by
   unfold wls wZ;rw [Bv,Bv]
   congr 1
   refine List.map_congr_left fun z _=>?_;show wl (wT0 f m z)=wl (f z);unfold wT0;rw [if_pos hm]
  rcases hu with rfl | rfl
  ·exact e "statement" ∅
  ·exact e "term" ∅
 | _=>rcases hu with rfl | rfl <;> rfl
theorem VI {t:Aa} {u:Str} (h:qi t u=true) (hs:u∈(["name","word","sign"]:List Str)):wl [strOf t]≤9:=by
 simp only [Ap,A2,or_false] at hs;rcases hs with rfl | rfl | rfl
 ·obtain ⟨y,rfl,hy⟩:=zR h;exact name_wl hy
 ·cases t with
  | str x=>
   have e:qi (.str x) "word"=(qG x&&x !="any"):=rfl;rw [e,Al] at h;exact name_wl h.1
  | _=>cases h
 ·cases t with
  | str x=>
   have e:qi (.str x) "sign"=signs.any fun y=>y==x:=rfl;rw [e] at h;obtain ⟨y,hy,hx⟩:=C4.mp h;have q:∀ y∈signs,wl [y]≤9:=∅;rw [← show y=x from Az.mp hx];exact q y hy
  | _=>cases h
theorem ZD {f:Aa→List Str}:∀ {xs:List Aa},xs.all qY=true→wls (xs.map (wT0 f "name"))≤9*xs.length
 | [],_=>Ax _
 | x::r,h=>by
  rw [D0,Al] at h;have ih:=ZD (f:=f) h.2;have a:wl (wT0 f "name" x)≤9:=by
   unfold wT0;rw [if_neg ∅];cases x with
   | str y=>exact name_wl h.1
   | _=>cases h.1
  show wl (wT0 f "name" x)+wls (r.map (wT0 f "name"))≤9*(r.length+1);omega
theorem qj8 {f:Aa→List Str} {x:Aa} {u:Str} (hu:u∈(["names","body","name","sign","term","terms","word"]:List Str)) (h:qi x u=true):wl (wT f u x)≤40+wZ f (qm x u):=by
 simp only [Ap,A2,or_false] at hu;rcases hu with rfl | rfl | rfl | rfl | rfl | rfl | rfl
 ·have e:wT f "names" x=("(":Str)::((mem f "names" x).flatten++[(")":Str)]):=rfl;rw [e,wl_par,J2];cases x with
  | tuple xs=>
   have e2:qi (.tuple xs) "names"=(decide (xs.length≤4)&&xs.all qY&&decide ((xs.map txt).Nodup)):=rfl;rw [e2,Al,Al] at h;have a:=ZD (f:=f) h.1.2;have b:=A3 h.1.1;have c:mem f "names" (.tuple xs)=xs.map (wT0 f "name"):=rfl;rw [c];omega
  | _=>cases h
 ·have e:wT f "body" x=("(":Str)::((mem f "body" x).flatten++[(")":Str)]):=rfl;rw [e,wl_par,J2,QE (.inl rfl)];omega
 ·have e:wT f "name" x=[strOf x]:=rfl;have:=VI h ∅;rw [e];omega
 ·have e:wT f "sign" x=[strOf x]:=rfl;have:=VI h ∅;rw [e];omega
 ·have e:wT f "term" x=f x:=rfl;have e2:wZ f (qm x "term")=wl (f x)+0:=rfl;rw [e,e2];omega
 ·have e:wT f "terms" x=("(":Str)::((mem f "terms" x).flatten++[(")":Str)]):=rfl;rw [e,wl_par,J2,QE (.inr rfl)];omega
 ·have e:wT f "word" x=[strOf x]:=rfl;have:=VI h ∅;rw [e];omega
theorem qcs {f:Aa→List Str} {h last:Str}:∀ (ps:List (Aa×Str)),(∀ p∈ps,wls (itm f h last p)≤40+wZ f (qm p.1 p.2))→wls (ps.flatMap (itm f h last))≤40*ps.length+wZ f (ps.flatMap fun p=>qm p.1 p.2)
 | [],_=>Ax _
 | p::r,q=>by
  have a:=q p Au;have b:=qcs r fun p' hp=>q p' (Ao _ hp);have e1:wls ((p::r).flatMap (itm f h last))=wls (itm f h last p)+wls (r.flatMap (itm f h last)):=by
   unfold wls;rw [Cv,A1,Dr]
  have e2:wZ f ((p::r).flatMap fun p=>qm p.1 p.2)=wZ f (qm p.1 p.2)+wZ f (r.flatMap fun p=>qm p.1 p.2):=by
   unfold wZ;rw [Cv,A1,Dr]
  rw [e1,e2,Aj];omega
theorem Q6 {n:Nat} {f:Aa→List Str} (IH:∀ {d:Aa} {s t:Nat},Tr d s t→t≤n→wl (f d)≤2000*s):∀ {ds:List Aa} {s t:Nat},Trl ds s t→t≤n→(ds.map fun d=>wl (f d)).sum≤2000*s
 | [],_,_,_,_=>Bm _
 | x::r,_,_,.cons h1 h2,ht=>by
  have a:=IH h1 (Aw (Nat.le_max_left _ _) ht);have b:=Q6 IH h2 (Aw (Nat.le_max_right _ _) ht);rw [As,B9];omega
theorem Zf {x:Aa} (h:qi x "number"=true∨qi x "name"=true):wl [strOf x]≤1922:=by
 rcases h with h | h
 ·have e:qi x "number"=zZ x:=rfl;rw [e] at h;cases x with
  | int i=>
   have:=PyProof.Rows.int_text_len_1921 (VT h);show (Str.ofString (toString i)).length+1+0≤1922;omega
  | _=>cases h
 ·obtain ⟨y,rfl,hy⟩:=zR h;exact Aw (name_wl hy) O0
theorem part_first {hd:Str} {ts:List Aa} {fs:List Str} (e:forms.lookup hd=some fs) (hl:ts.length=fs.length) (hs:∀ p∈ts.zip fs,qi p.1 p.2=true) (c:(hd=="number"||hd=="name")=true):∃ x r,ts=x::r∧(qi x "number"=true∨qi x "name"=true):=by
 rw [Bt,Az,Az] at c;rcases c with rfl | rfl
 ·have e2:forms.lookup ("number":Str)=some (["number"]:List Str):=∅;cases e.symm.trans e2
  match ts,hl,hs with
  | [x],_,hs=>exact ⟨x,[],rfl,.inl (hs (x,"number") (by simp))⟩
 ·have e2:forms.lookup ("name":Str)=some (["name"]:List Str):=∅;cases e.symm.trans e2
  match ts,hl,hs with
  | [x],_,hs=>exact ⟨x,[],rfl,.inr (hs (x,"name") (by simp))⟩
set_option tactic.hygienic true in
theorem wl_part:∀ (n:Nat) {d:Aa} {s t:Nat},Tr d s t→t≤n→wl (wP n d)≤2000*s
 | 0,_,_,_,h,ht=>h.el fun _ _ _ _ _ et _ _=>⋯
 | n+1,_,_,_,h,ht=>h.el fun sh hands s0 t0 es et hf tl=>by
  obtain ⟨hd,ts,fs,l,rfl,_,_,e,h5,hl,hs,_⟩:=qK hf;have ef:=A5 e;rw [wP_part]
  by_cases c:(hd=="number"||hd=="name")=true
  ·rw [if_pos c];obtain ⟨x,r,rfl,hx⟩:=part_first e hl hs c;have:=Zf hx;show wl [strOf x]≤_;omega
  ·rw [if_neg c,wl_par,J2];unfold items;rw [e];have q:∀ p∈forms,wl [p.1]≤10:=∅;have a:wls (if (hd=="two")=true then [] else [[hd]])≤10:=by
    split
    ·exact Bm _
    ·exact q _ ef
   have sh7:∀ p∈forms,¬ (p.1=="number"||p.1=="name")=true→∀ u∈p.2,u∈(["names","body","name","sign","term","terms","word"]:List Str):=∅;have b:=qcs (f:=wP n) (h:=hd) (last:=fs.getLastD "") (ts.zip fs) fun p hp=>by
    unfold itm;split
    ·rename_i d;rw [Al,Az] at d;rw [QE (by rw [d.2];exact XA _ ef d.1)]
     omega
    ·have w:=qj8 (f:=wP n) (sh7 _ ef c p.2 (C0 hp).2) (hs p hp);show wl _+0≤_;omega
   have k:wZ (wP n) ((ts.zip fs).flatMap fun p=>qm p.1 p.2)≤2000*s0:=by
    have z:=Q6 (wl_part n) tl ⋯;unfold jY at z;rw [qN e,Bv] at z;exact z
   have zl:(ts.zip fs).length≤5:=by
    rw [Dd];omega
   have ap:wls ((if (hd=="two")=true then [] else [[hd]])++(ts.zip ((some fs).getD [])).flatMap (itm (wP n) hd (((some fs).getD []).getLastD "")))=wls (if (hd=="two")=true then [] else [[hd]])+wls ((ts.zip fs).flatMap (itm (wP n) hd (fs.getLastD ""))):=by
    unfold wls;rw [A1,Dr];rfl
   rw [ap];omega
structure Op where
 sh:Str
 ts:List Aa
abbrev unwritten:List Str:=["number","name","two"]
abbrev bracketed:List Str:=["program","term","statement","names","body"]
def fsOf (h:Str):List Str:=if signs.contains h=true then ["term","term"] else (forms.lookup h).getD []
def behind (h:Str) (k:Nat):Option Str:=if (opened.contains h&&decide ((fsOf h).length - 1≤k))=true then members.lookup ((fsOf h).getLastD "") else (fsOf h)[k]?
def wanted (o:Op):Option Str:=if (o.sh=="text")=true then some "program" else match members.lookup o.sh with
 | some m=>some m
 | none=>match o.ts with
  | []=>some "head"
  | .str h::r=>behind h r.length
  | _=>none
def isHead (x sh:Str):Bool:=if signs.contains x=true then sh=="term" else ((heads.lookup sh).getD []).contains x&&!unwritten.contains x
def closed (o:Op):Aa:=if (members.lookup o.sh).isSome=true then .tuple o.ts else match o.ts with
 | .str h::r=>if signs.contains h=true then .tuple (.str "two":: .str h::r) else if opened.contains h=true then .tuple ((.str h::r).take (fsOf h).length++[.tuple ((.str h::r).drop (fsOf h).length)]) else .tuple (.str h::r)
 | ts=> .tuple ts
inductive OpOk:Op→Prop
 | text {ts:List Aa}:OpOk ⟨"text",ts⟩
 | row {sh:Str} {ts:List Aa}:(members.lookup sh).isSome=true→OpOk ⟨sh,ts⟩
 | new {sh:Str}:(heads.lookup sh).isSome=true→OpOk ⟨sh,[]⟩
 | part {sh h:Str} {r:List Aa}:(heads.lookup sh).isSome=true→(signs.contains h=true∨(forms.lookup h).isSome=true)→OpOk ⟨sh,.str h::r⟩
inductive Thing (x:Str) (o:Op):Aa→Prop
 | head:wanted o=some "head"→isHead x o.sh=true→Thing x o (.str x)
 | word {s:Str}:wanted o=some s→(s="name"∨s="word")→Thing x o (.str x)
 | name:wanted o=some "term"→qG x=true→Thing x o (.tuple [.str "name",.str x])
 | num {i:Int}:wanted o=some "term"→jP i=true→x=Str.ofString (toString i)→Thing x o (.tuple [.str "number",.int i])
inductive Step:List Op→Str→List Op→Prop
 | close {o r:Op} {rs:List Op}:OpOk o→(o.sh=="text")=false→Step (o::r::rs) ")" (⟨r.sh,r.ts++[closed o]⟩::rs)
 | opens {o:Op} {rs:List Op} {s:Str}:OpOk o→wanted o=some s→bracketed.contains s=true→Step (o::rs) "(" (⟨s,[]⟩::o::rs)
 | word {o:Op} {rs:List Op} {x:Str} {t:Aa}:OpOk o→x≠"("→x≠")"→Thing x o t→Step (o::rs) x (⟨o.sh,o.ts++[t]⟩::rs)
inductive Steps:List Op→List Str→List Op→Prop
 | nil {S:List Op}:Steps S [] S
 | cons {S S1 S2:List Op} {x:Str} {r:List Str}:Step S x S1→Steps S1 r S2→Steps S (x::r) S2
theorem Steps.one {S S1:List Op} {x:Str} (h:Step S x S1):Steps S [x] S1:= .cons h .nil
theorem Steps.app {S S1:List Op} {a:List Str} (h:Steps S a S1):∀ {b:List Str} {S2:List Op},Steps S1 b S2→Steps S (a++b) S2:=by
 induction h with
 | nil=>exact fun h=>h
 | cons s _ ih=>exact fun h=> .cons s (ih h)
def Reads (ws:List Str) (u:Str) (t:Aa):Prop:=∀ (o:Op) (rs:List Op),OpOk o→wanted o=some u→Steps (o::rs) ws (⟨o.sh,o.ts++[t]⟩::rs)
theorem wb {sh m:Str} {f:Aa→List Str} {rs:List Op}:∀ (xs ts0:List Aa),(∀ ys,OpOk ⟨sh,ts0++ys⟩∧wanted ⟨sh,ts0++ys⟩=some m)→(∀ x∈xs,Reads (f x) m x)→Steps (⟨sh,ts0⟩::rs) (xs.map f).flatten (⟨sh,ts0++xs⟩::rs)
 | [],ts0,_,_=>by
  rw [Bi];exact .nil
 | x::r,ts0,hw,hx=>by
  have h0:=hw [];rw [Bi] at h0;have a:=hx x Au ⟨sh,ts0⟩ rs h0.1 h0.2;have b:=wb (sh:=sh) (m:=m) (f:=f) (rs:=rs) r (ts0++[x]) (fun ys=>by rw [Bl];exact hw _) fun y hy=>hx y (Ao _ hy)
  rw [Bl,List.singleton_append] at b;exact a.app b
theorem wanted_row {sh m:Str} {ts:List Aa} (h0:(sh=="text")=false) (h:members.lookup sh=some m):wanted ⟨sh,ts⟩=some m:=by
 unfold wanted;rw [h0,if_neg Ai,h]
theorem vC {sh h:Str} {r:List Aa} (h0:(sh=="text")=false) (h1:members.lookup sh=none):wanted ⟨sh,.str h::r⟩=behind h r.length:=by
 unfold wanted;rw [h0,if_neg Ai,h1]
theorem Wz {sh:Str} (h0:(sh=="text")=false) (h1:members.lookup sh=none):wanted ⟨sh,[]⟩=some ("head":Str):=by
 unfold wanted;rw [h0,if_neg Ai,h1]
theorem Yw {u m:Str} {f:Aa→List Str} {xs:List Aa} (h0:(u=="text")=false) (hm:members.lookup u=some m) (hb:bracketed.contains u=true) (hx:∀ x∈xs,Reads (f x) m x):Reads ("("::((xs.map f).flatten++[(")":Str)])) u (.tuple xs):=by
 intro o rs ok hw;have ok':∀ ys,OpOk ⟨u,ys⟩:=fun ys=> .row (by rw [hm];rfl)
 have a:Steps (⟨u,[]⟩::o::rs) (xs.map f).flatten (⟨u,[]++xs⟩::o::rs):=wb xs [] (fun ys=>⟨ok' _,wanted_row h0 hm⟩) hx;refine .cons (.opens ok hw hb) (a.app (.one ?_));have e:closed ⟨u,[]++xs⟩= .tuple xs:=by
  unfold closed;rw [hm];rfl
 have s:=Step.close (o:=⟨u,[]++xs⟩) (r:=o) (rs:=rs) (ok' _) h0;rw [e] at s;exact s
theorem vJ {x u:Str} (h:x≠"("∧x≠")") (hu:u="name"∨u="word"):Reads [x] u (.str x):=fun _ _ ok hw=> .one (.word ok h.1 h.2 (.word hw hu))
theorem Xy {xs:List Aa} (h:xs.all qY=true) {f:Aa→List Str}:∀ x∈xs,Reads (wT0 f "name" x) "name" x:=by
 intro x hx;have q:=A4.mp h x hx;cases x with
 | str y=>
  have e:wT0 f "name" (.str y)=[y]:=rfl;rw [e];exact vJ (name_nb q) (.inl rfl)
 | _=>cases q
theorem wD {f:Aa→List Str} {t:Aa} {u:Str} (hu:u∈(["names","body","name","term","word"]:List Str)) (hs:qi t u=true) (kid:∀ z v,(z,v)∈qm t u→Reads (f z) v z):Reads (wT f u t) u t:=by
 simp only [Ap,A2,or_false] at hu;rcases hu with rfl | rfl | rfl | rfl | rfl
 ·cases t with
  | tuple xs=>
   have e2:qi (.tuple xs) "names"=(decide (xs.length≤4)&&xs.all qY&&decide ((xs.map txt).Nodup)):=rfl;rw [e2,Al,Al] at hs;exact Yw (m:="name") ∅ ∅ ∅ (Xy hs.1.2)
  | _=>cases hs
 ·cases t with
  | tuple xs=>
   refine Yw (m:="statement") (f:=wT0 f "statement") ∅ ∅ ∅ fun x hx=>?_;have e:wT0 f "statement" x=f x:=rfl;rw [e];exact kid x "statement" (Bo.mpr ⟨x,hx,rfl⟩)
  | _=>cases hs
 ·obtain ⟨y,rfl,hy⟩:=zR hs;exact vJ (name_nb hy) (.inl rfl)
 ·exact kid t "term" (A0.mpr rfl)
 ·cases t with
  | str x=>
   have e:qi (.str x) "word"=(qG x&&x !="any"):=rfl;rw [e,Al] at hs;exact vJ (name_nb hs.1) (.inr rfl)
  | _=>cases hs
theorem wa {sh h:Str} {f:Aa→List Str} {rs:List Op} (h0:(sh=="text")=false) (h1:members.lookup sh=none) (h2:(heads.lookup sh).isSome=true) (h3:signs.contains h=true∨(forms.lookup h).isSome=true):
  ∀ (ps:List (Aa×Str)) (pre:List Aa),(∀ i p,ps[i]?=some p→behind h (pre.length+i)=some p.2)→(∀ p∈ps,Reads (wT f p.2 p.1) p.2 p.1)→Steps (⟨sh,.str h::pre⟩::rs) (ps.map fun p=>wT f p.2 p.1).flatten (⟨sh,.str h::(pre++ps.map (·.1))⟩::rs)
 | [],pre,_,_=>by
  rw [Cd,Cd,Bi];exact .nil
 | p::r,pre,hb,hx=>by
  have w:=hb 0 p rfl;have a:=hx p Au ⟨sh,.str h::pre⟩ rs (.part h2 h3) ((vC h0 h1).trans w);have b:=wa (f:=f) (rs:=rs) h0 h1 h2 h3 r (pre++[p.1]) (fun i q hq=>by
   have z:=hb (i+1) q hq;rw [Ak,Cy];rw [show pre.length+1+i=pre.length+(i+1) from ⋯];exact z) fun q hq=>hx q (Ao _ hq)
  rw [Bl,List.singleton_append] at b;exact a.app b
theorem Ptl.get:∀ {l:List (Aa×Str)} {hands:Bool} {s t:Nat},Ptl l hands s t→∀ q∈l,∃ s' t',Pt q.1 q.2 hands s' t'∧t'≤t
 | [],_,_,_,_,q,hq=>by cases hq
 | (d,u)::r,_,_,_,h,q,hq=>h.el fun s1 t1 s2 t2 _ et p l=>by
  subst et;rcases Ap.mp hq with rfl | hq
  ·exact ⟨s1,t1,p,Nat.le_max_left _ _⟩
  ·obtain ⟨s',t',a,b⟩:=Ptl.get l q hq;exact ⟨s',t',a,Aw b (Nat.le_max_right _ _)⟩
theorem Qe:∀ p∈heads,(p.1=="text")=false∧members.lookup p.1=none∧(heads.lookup p.1).isSome=true∧bracketed.contains p.1=true:=∅
theorem QQ:∀ p∈heads,∀ h∈p.2,¬ (h=="number"||h=="name")=true→¬ (h=="two")=true→signs.contains h=false∧isHead h p.1=true∧h≠"("∧h≠")":=∅
theorem Qt:∀ p∈forms,opened.contains p.1=true→∃ a b,p.2=[a,b]∧(a="names"∨a="term")∧(b="body"∨b="terms")∧signs.contains p.1=false∧b≠a:=by
 intro p hp ho;simp only [forms,Ap,A2,or_false] at hp;rcases hp with rfl | rfl | rfl | rfl | rfl | rfl | rfl | rfl | rfl | rfl | rfl | rfl | rfl | rfl | rfl | rfl | rfl <;> first
  | exact absurd ho ∅
  | exact ⟨_,_,rfl,∅,∅,∅,∅⟩
theorem Zq:∀ p∈forms,opened.contains p.1=false→¬ (p.1=="number"||p.1=="name")=true→¬ (p.1=="two")=true→∀ u∈p.2,u∈(["names","body","name","term","word"]:List Str):=∅
theorem ZC:∀ x∈signs,x≠"("∧x≠")":=∅
theorem ZQ {α β:Type} {g:α→List β} {k:α→β}:∀ l:List α,(∀ p∈l,g p=[k p])→l.flatMap g=l.map k
 | [],_=>rfl
 | p::r,h=>by
  rw [Cv,h p Au,ZQ r fun q hq=>h q (Ao _ hq)];rfl
theorem reads:∀ (n:Nat) {d:Aa} {sh:Str} {hands:Bool} {s t:Nat},Pt d sh hands s t→t≤n→Reads (wP n d) sh d
 | 0,_,_,_,_,_,h,ht=>h.el fun _ _ _ et _ _=>⋯
 | n+1,_,sh,_,_,_,h,ht=>h.el fun s0 t0 es et hf tl=>by
  obtain ⟨hd,ts,fs,l,rfl,hl1,hl2,e,_,hl,hs,_⟩:=qK hf;have ef:=A5 e;have hm:=A5 hl1;obtain ⟨k0,k1,k2,k3⟩:=Qe _ hm;have kid:∀ p∈ts.zip fs,∀ z v,(z,v)∈qm p.1 p.2→Reads (wP n z) v z:=fun p hp z v hz=>by
   have hk:(z,v)∈jx (.tuple (.str hd::ts)):=by
    rw [qN e];exact Ct.mpr ⟨p,hp,hz⟩
   obtain ⟨s',t',q,hq⟩:=Ptl.get tl (z,v) hk;exact reads n q ⋯
  rw [wP_part]
  by_cases c:(hd=="number"||hd=="name")=true
  ·rw [if_pos c];have hsh:sh="term":=by
    have q:∀ p∈heads,∀ h∈p.2,(h=="number"||h=="name")=true→p.1="term":=∅;exact q _ hm hd hl2 c
   subst hsh;rw [Bt,Az,Az] at c;rcases c with rfl | rfl
   ·have e2:forms.lookup ("number":Str)=some (["number"]:List Str):=∅;cases e.symm.trans e2
    match ts,hl,hs with
    | [x],_,hs=>
     have hx:qi x "number"=true:=hs (x,"number") (by simp)
     have e3:qi x "number"=zZ x:=rfl;rw [e3] at hx;cases x with
     | int i=>exact fun o rs ok hw=> .one (.word ok (W8 i).1 (W8 i).2 (.num hw hx rfl))
     | _=>cases hx
   ·have e2:forms.lookup ("name":Str)=some (["name"]:List Str):=∅;cases e.symm.trans e2
    match ts,hl,hs with
    | [x],_,hs=>
     have hx:qi x "name"=true:=hs (x,"name") (by simp)
     obtain ⟨y,rfl,hy⟩:=zR hx;exact fun o rs ok hw=> .one (.word ok (name_nb hy).1 (name_nb hy).2 (.name hw hy))
  rw [if_neg c];intro o rs ok hw;refine .cons (.opens ok hw k3) ?_;unfold items;rw [e]
  by_cases c2:(hd=="two")=true
  ·rw [if_pos c2];rw [Az] at c2;subst c2;have e2:forms.lookup ("two":Str)=some (["sign","term","term"]:List Str):=∅;cases e.symm.trans e2
   match ts,hl,hs,kid with
   | [x,y,z],_,hs,kid=>
    have hx:qi x "sign"=true:=hs (x,"sign") (by simp)
    cases x with
    | str g=>
     have e3:qi (.str g) "sign"=signs.any fun y=>y==g:=rfl;rw [e3] at hx;obtain ⟨g',hg,hx'⟩:=C4.mp hx;cases Az.mp hx';have gs:signs.contains g=true:=Cn.mpr hg;have hsh:sh="term":=by
      have q:∀ p∈heads,("two":Str)∈p.2→p.1="term":=∅;exact q _ hm hl2
     subst hsh;have s1:Step (⟨"term",[]⟩::o::rs) g (⟨"term",[]++[.str g]⟩::o::rs):= .word (.new k2) (ZC g hg).1 (ZC g hg).2 (.head (Wz k0 k1) (by unfold isHead;rw [if_pos gs];exact Az.mpr rfl))
     have fz:fsOf g=(["term","term"]:List Str):=by unfold fsOf;rw [if_pos gs]
     have no:opened.contains g=false:=by
      have q:∀ x∈signs,opened.contains x=false:=∅;exact q g hg
     have bh:∀ k,behind g k=(["term","term"]:List Str)[k]?:=fun k=>by
      unfold behind;rw [no,fz,B3,if_neg Ai]
     have s2:=wa (rs:=o::rs) (f:=wP n) (sh:="term") (h:=g) k0 k1 k2 (.inl gs) [(y,"term"),(z,"term")] [] (fun i p hp=>by
      rw [bh]
      match i,hp with
      | 0,hp=>cases hp;rfl
      | 1,hp=>cases hp;rfl) (fun p hp=>by
      simp only [Ap,A2,or_false] at hp;rcases hp with rfl | rfl
      ·exact kid (y,"term") (by simp) y "term" (A0.mpr rfl)
      ·exact kid (z,"term") (by simp) z "term" (A0.mpr rfl))
     have s3:=Step.close (o:=⟨"term",.str g::([]++[(y,("term":Str)),(z,("term":Str))].map (·.1))⟩) (r:=o) (rs:=rs) (.part k2 (.inl gs)) k0;have ec:closed ⟨"term",.str g::([]++[(y,("term":Str)),(z,("term":Str))].map (·.1))⟩= .tuple [.str "two",.str g,y,z]:=by
      unfold closed;rw [k1];simp only [Option.isSome_none,Dc,if_false,gs,if_true];rfl
     rw [ec] at s3;exact .cons s1 (s2.app (.one s3))
    | _=>cases hx
  ·rw [if_neg c2];obtain ⟨g0,g1,g2,g3⟩:=QQ _ hm hd hl2 c c2;have s1:Step (⟨sh,[]⟩::o::rs) hd (⟨sh,[]++[.str hd]⟩::o::rs):= .word (.new k2) g2 g3 (.head (Wz k0 k1) g1);have fz:fsOf hd=fs:=by unfold fsOf;rw [g0,if_neg Ai,e];rfl
   have h3:signs.contains hd=true∨(forms.lookup hd).isSome=true:= .inr (by rw [e];rfl)
   by_cases c3:opened.contains hd=true
   ·obtain ⟨a,b,ab,ha,hb,_,nab⟩:=Qt _ ef c3;have ab':fs=[a,b]:=ab;subst ab'
    match ts,hl,hs,kid with
    | [x,y],_,hs,kid=>
     have hy:qi y b=true:=hs (y,b) (by simp)
     have hx:qi x a=true:=hs (x,a) (by simp)
     have row:∃ ys,y= .tuple ys:=by
      rcases hb with rfl | rfl <;> cases y with
      | tuple ys=>exact ⟨ys,rfl⟩
      | _=>cases hy
     obtain ⟨ys,rfl⟩:=row;have bh0:behind hd 0=some a:=by
      unfold behind;rw [fz,c3];rfl
     have bh1:∀ k,1≤k→behind hd k=members.lookup b:=fun k hk=>by
      unfold behind;rw [fz,c3,B0,if_pos (An (show ([a,b]:List Str).length - 1≤k from hk))];rfl
     have s2:Steps (⟨sh,[]++[.str hd]⟩::o::rs) (wT (wP n) a x) (⟨sh,([]++[.str hd])++[x]⟩::o::rs):=by
      refine wD (t:=x) (u:=a) ?_ hx (fun z v hz=>kid (x,a) (by simp) z v hz) _ _ (.part k2 h3) ((vC k0 k1).trans bh0)
      rcases ha with rfl | rfl <;> decide+kernel
     have mb:∃ m,members.lookup b=some m∧(m=="term"||m=="statement")=true∧∀ z∈ys,(z,m)∈qm (.tuple ys) b:=by
      rcases hb with rfl | rfl
      ·exact ⟨"statement",∅,∅,fun z hz=>Bo.mpr ⟨z,hz,rfl⟩⟩
      ·exact ⟨"term",∅,∅,fun z hz=>Bo.mpr ⟨z,hz,rfl⟩⟩
     obtain ⟨m,em,hm2,hin⟩:=mb;have s3:Steps (⟨sh,[.str hd,x]⟩::o::rs) (ys.map (wT0 (wP n) m)).flatten (⟨sh,[.str hd,x]++ys⟩::o::rs):=wb ys [.str hd,x] (fun zs=>⟨.part k2 h3,(vC k0 k1).trans ((bh1 _ (by simp)).trans em)⟩) fun z hz=>by
      unfold wT0;rw [if_pos hm2];exact kid (.tuple ys,b) (by simp) z m (hin z hz)
     have s4:=Step.close (o:=⟨sh,[.str hd,x]++ys⟩) (r:=o) (rs:=rs) (.part k2 h3) k0;have ec:closed ⟨sh,[.str hd,x]++ys⟩= .tuple [.str hd,x,.tuple ys]:=by
      unfold closed;rw [k1];simp only [Option.isSome_none,Dc,if_false,Cc,B2,g0,c3,if_true,fz];rfl
     rw [ec] at s4;have hw2:[[hd]]++(List.zip [x,.tuple ys] ((some [a,b]).getD [])).flatMap (itm (wP n) hd (((some [a,b]).getD []).getLastD ""))=[hd]::wT (wP n) a x::ys.map (wT0 (wP n) m):=by
      have e5:itm (wP n) hd b (x,a)=[wT (wP n) a x]:=by
       unfold itm;rw [c3,B0];exact if_neg (by rw [Az];exact fun z=>nab z.symm)
      have e6:itm (wP n) hd b (.tuple ys,b)=ys.map (wT0 (wP n) m):=by
       unfold itm;rw [c3,B0,if_pos (Az.mpr rfl)];show ys.map (wT0 (wP n) ((members.lookup b).getD ""))=_;rw [em];rfl
      show [hd]::(itm (wP n) hd b (x,a)++(itm (wP n) hd b (.tuple ys,b)++[]))=_;rw [e5,e6,Bi];rfl
     rw [hw2,Bp,Bp,Bl,Bl];exact .cons s1 (s2.app (s3.app (.one s4)))
   ·have c3':=Bs.mpr c3;have pf:=Zq _ ef c3' c c2;have s2:=wa (rs:=o::rs) (f:=wP n) (sh:=sh) (h:=hd) k0 k1 k2 h3 (ts.zip fs) [] (fun i p hp=>by
     have q:=C6.mp hp;unfold behind;rw [c3',B3,if_neg Ai,fz,Ba,Nat.zero_add];exact q.2) (fun p hp=>wD (pf p.2 (C0 hp).2) (hs p hp) (kid p hp))
    have em:(ts.zip fs).map (·.1)=ts:=List.map_fst_zip ⋯;rw [em] at s2;have s4:=Step.close (o:=⟨sh,.str hd::([]++ts)⟩) (r:=o) (rs:=rs) (.part k2 h3) k0;have ec:closed ⟨sh,.str hd::([]++ts)⟩= .tuple (.str hd::ts):=by
     unfold closed;rw [k1];simp only [Option.isSome_none,Dc,if_false,g0,c3'];rfl
    rw [ec] at s4;have hw2:[[hd]]++(List.zip ts ((some fs).getD [])).flatMap (itm (wP n) hd (((some fs).getD []).getLastD ""))=[hd]::(ts.zip fs).map fun p=>wT (wP n) p.2 p.1:=by
     show [hd]::(List.zip ts fs).flatMap (itm (wP n) hd (fs.getLastD ""))=_
     congr 1
     refine ZQ _ fun p _=>?_;unfold itm;rw [c3',B3,if_neg Ai]
    rw [hw2,Bp];exact .cons s1 ((s2.app (.one s4)))
inductive Pl:Aa→Prop
 | str {x:Str}:x≠"("∧x≠")"→x.length≤1000→Pl (.str x)
 | int {i:Int}:jP i=true→Pl (.int i)
inductive ThR (n:Nat):Bool→Str→Aa→Prop
 | part {b:Bool} {u:Str} {t:Aa} {s τ:Nat}:(u=="term"||u=="statement")=true→Tr t s τ→s≤300→τ≤n→ThR n b u t
 | plain {b:Bool} {u:Str} {t:Aa}:(u=="term"||u=="statement")=false→members.lookup u=none→Pl t→ThR n b u t
 | row {u m:Str} {xs:List Aa}:members.lookup u=some m→xs.length≤12→(∀ x∈xs,ThR n false m x)→ThR n true u (.tuple xs)
theorem Pl.nb {t:Aa} (h:Pl t):strOf t≠"("∧strOf t≠")":=by
 cases h with
 | str h _=>exact h
 | int _=>exact W8 _
theorem Pl.wl {t:Aa} (h:Pl t):wl [strOf t]≤1922:=by
 cases h with
 | @str x _ h=>
  show x.length+1+0≤_;omega
 | @int i h=>exact Zf (x:= .int i) (.inl h)
theorem term_mem {u:Str} (h:(u=="term"||u=="statement")=true):members.lookup u=none:=by
 rw [Bt,Az,Az] at h;rcases h with rfl | rfl <;> decide+kernel
theorem mem_term {u m:Str} (h:members.lookup u=some m):(u=="term"||u=="statement")=false:=by
 cases e:(u=="term"||u=="statement") with
 | false=>rfl
 | true=>rw [term_mem e] at h;cases h
theorem wT_part {f:Aa→List Str} {u:Str} {t:Aa} (h:(u=="term"||u=="statement")=true):wT f u t=f t:=by
 unfold wT;rw [term_mem h,if_neg (by simp)]
 unfold wT0;rw [if_pos h]
theorem wT_plain {f:Aa→List Str} {u:Str} {t:Aa} (h:(u=="term"||u=="statement")=false) (h2:members.lookup u=none):wT f u t=[strOf t]:=by
 unfold wT;rw [h2,if_neg (by simp)]
 unfold wT0;rw [h,if_neg Ai]
theorem WB {f:Aa→List Str} {u m:Str} {xs:List Aa} (h:members.lookup u=some m):wT f u (.tuple xs)=("(":Str)::((xs.map (wT0 f m)).flatten++[(")":Str)]):=by
 unfold wT;rw [if_pos (by rw [h];rfl)]
 unfold mem;rw [h];rfl
theorem wT_same {n:Nat} {f:Aa→List Str} {u:Str} {t:Aa} (h:ThR n false u t):wT f u t=wT0 f u t:=by
 cases h with
 | part h _ _ _=>rw [wT_part h];unfold wT0;rw [if_pos h]
 | plain h h2 _=>rw [wT_plain h h2];unfold wT0;rw [h,if_neg Ai]
theorem Xq {n:Nat} {d:Aa} {s t:Nat} (h:Tr d s t) (ht:t≤n):One (wP n d):=by
 cases n with
 | zero=>exact h.el fun _ _ _ _ _ et _ _=>⋯
 | succ n=>exact qeg h
theorem ThR.one {n:Nat} {u:Str} {t:Aa} (h:ThR n false u t):One (wT0 (wP n) u t):=by
 cases h with
 | part h h2 _ h3=>
  unfold wT0;rw [if_pos h];exact Xq h2 h3
 | plain h _ h2=>
  unfold wT0;rw [h,if_neg Ai];exact .word h2.nb.2 h2.nb.1
theorem ThR.wl {n:Nat} {u:Str} {t:Aa} (h:ThR n false u t):wl (wT0 (wP n) u t)≤600000:=by
 cases h with
 | part h h2 hs h3=>
  unfold wT0;rw [if_pos h];have:=wl_part n h2 h3;omega
 | plain h _ h2=>
  unfold wT0;rw [h,if_neg Ai];exact Aw h2.wl O0
theorem tx_one (x:Str):tx [x]=x:=by
 rw [tx,run,JL]
theorem tx_le {ws:List Str} {m:Nat} (h:wl ws≤m):(tx ws).length≤m:=Aw (qc3 ws) h
theorem sum_le {ws:List (List Str)} {m:Nat}:∀ (l:List (List Str)),(∀ i∈l,wl i≤m)→((l.map tx).map (·.length)).sum≤m*l.length
 | [],_=>Bm _
 | i::r,h=>by
  have a:=tx_le (h i Au);have b:=sum_le (ws:=ws) r fun j hj=>h j (Ao _ hj);rw [As,As,B9,Aj,Nat.mul_succ];omega
theorem sum_wls:∀ (l:List (List Str)),((l.map tx).map (·.length)).sum≤wls l
 | []=>Bm _
 | i::r=>by
  have a:=qc3 i;have b:=sum_wls r;have e:wls (i::r)=wl i+wls r:=rfl;have e2:wl i=(i.map fun w=>w.length+1).sum:=rfl;rw [As,As,B9,e];omega
theorem qcv {m:Nat}:∀ (l:List (List Str)),(∀ i∈l,wl i≤m)→wls l≤m*l.length
 | [],_=>Bm _
 | i::r,h=>by
  have a:=h i Au;have b:=qcv r fun j hj=>h j (Ao _ hj);have e:wls (i::r)=wl i+wls r:=rfl;rw [e,Aj,Nat.mul_succ];omega
theorem row_len {n:Nat} {u m:Str} {xs:List Aa} (h:members.lookup u=some m) (hl:xs.length≤12) (hx:∀ x∈xs,ThR n false m x):(tx (wT (wP n) u (.tuple xs))).length≤7300000:=by
 have a:=qcv (m:=600000) (xs.map (wT0 (wP n) m)) fun i hi=>by
  obtain ⟨z,hz,rfl⟩:=Bo.mp hi;exact (hx z hz).wl
 rw [Ah] at a;refine tx_le ?_;rw [WB h,wl_par,J2];omega
theorem row_tx {n:Nat} {u m:Str} {xs:List Aa} (h:members.lookup u=some m) (hx:∀ x∈xs,ThR n false m x):tx (wT (wP n) u (.tuple xs))=("(":Str)++Str.join " " ((xs.map (wT0 (wP n) m)).map tx)++")":=by
 rw [WB h,qc2,XB,jw];intro i hi;obtain ⟨x,hx',rfl⟩:=Bo.mp hi;exact (hx x hx').one
theorem things_of {n:Nat} {hd:Str} {ts:List Aa} {fs:List Str} {s t:Nat} (h:Tr (.tuple (.str hd::ts)) s t) (hs:s≤300) (ht:t≤n+1) (c:¬ (hd=="number"||hd=="name")=true) (e:forms.lookup hd=some fs):ts.length=fs.length∧fs.length≤5∧∀ p∈ts.zip fs,ThR n true p.2 p.1:=h.el fun sh hands s0 t0 es et hf tl=>by
 obtain ⟨hd',ts',fs',l,e0,_,_,e',h5,hl,hsh,_⟩:=qK hf;cases e0;cases e.symm.trans e';have ef:=A5 e;refine ⟨hl,h5,fun p hp=>?_⟩;have sh7:∀ p∈forms,¬ (p.1=="number"||p.1=="name")=true→∀ u∈p.2,u∈(["names","body","name","sign","term","terms","word"]:List Str):=∅;have hu:=sh7 _ ef c p.2 (C0 hp).2;have hp2:=hsh p hp;have kid:∀ x u,(x,u)∈qm p.1 p.2→∃ s' t',Tr x s' t'∧s'≤300∧t'≤n:=fun x u hx=>by
  have hk:x∈jY (.tuple (.str hd::ts)):=by
   unfold jY;rw [qN e];exact Bo.mpr ⟨(x,u),Ct.mpr ⟨p,hp,hx⟩,rfl⟩
  obtain ⟨s',t',q,a,b⟩:=tl.mem x hk;exact ⟨s',t',q,⋯,⋯⟩
 obtain ⟨t,u⟩:=p;have plainL:∀ u:Str,u∈(["name","word","sign"]:List Str)→qi t u=true→ThR n true u t:=fun u h1 h2=>by
  have w:=VI h2 h1;have nb:=JW h2 (by
   have q:∀ u∈(["name","word","sign"]:List Str),u∈(["number","name","word","sign"]:List Str):=∅;exact q u h1)
  have q1:∀ u∈(["name","word","sign"]:List Str),(u=="term"||u=="statement")=false∧members.lookup u=none:=∅;refine .plain (q1 u h1).1 (q1 u h1).2 ?_;have st:∃ x,t= .str x:=by
   simp only [Ap,A2,or_false] at h1;rcases h1 with rfl | rfl | rfl <;> cases t with
   | str x=>exact ⟨x,rfl⟩
   | _=>cases h2
  obtain ⟨x,rfl⟩:=st;refine .str nb ?_;have w':x.length+1+0≤9:=w;omega
 have rowL:∀ u m:Str,members.lookup u=some m→(m=="term"||m=="statement")=true→qi t u=true→(∀ ys,t= .tuple ys→ys.length≤12∧∀ z∈ys,(z,m)∈qm t u)→(∃ ys,t= .tuple ys)→(∀ x v,(x,v)∈qm t u→∃ s' t',Tr x s' t'∧s'≤300∧t'≤n)→ThR n true u t:=fun u m h1 h2 _ h4 h5 kid=>by
  obtain ⟨ys,rfl⟩:=h5;obtain ⟨a,b⟩:=h4 ys rfl;refine .row h1 a fun x hx=>?_;obtain ⟨s',t',q,q1,q2⟩:=kid x m (b x hx);exact .part h2 q q1 q2
 simp only [Ap,A2,or_false] at hu;rcases hu with rfl | rfl | rfl | rfl | rfl | rfl | rfl
 ·cases t with
  | tuple xs=>
   have e2:qi (.tuple xs) "names"=(decide (xs.length≤4)&&xs.all qY&&decide ((xs.map txt).Nodup)):=rfl;have hp3:qi (.tuple xs) "names"=true:=hp2;rw [e2,Al,Al] at hp3;have b:=A3 hp3.1.1;refine ThR.row (u:="names") (m:="name") ∅ ⋯ fun x hx=>?_;have q:=A4.mp hp3.1.2 x hx;cases x with
   | str y=>
    refine .plain ∅ ∅ (.str (name_nb q) ?_);have w:y.length+1+0≤9:=name_wl q;omega
   | _=>cases q
  | _=>cases hp2
 ·refine rowL "body" "statement" ∅ ∅ hp2 (fun ys e=>?_) ?_ kid
  ·subst e;exact ⟨A3 hp2,fun z hz=>Bo.mpr ⟨z,hz,rfl⟩⟩
  ·cases t with
   | tuple ys=>exact ⟨ys,rfl⟩
   | _=>cases hp2
 ·exact plainL "name" ∅ hp2
 ·exact plainL "sign" ∅ hp2
 ·obtain ⟨s',t',q,q1,q2⟩:=kid t "term" (A0.mpr rfl);exact ThR.part (u:="term") ∅ q q1 q2
 ·refine rowL "terms" "term" ∅ ∅ hp2 (fun ys e=>?_) ?_ kid
  ·subst e;have:=A3 (show decide (ys.length≤4)=true from hp2);exact ⟨⋯,fun z hz=>Bo.mpr ⟨z,hz,rfl⟩⟩
  ·cases t with
   | tuple ys=>exact ⟨ys,rfl⟩
   | _=>cases hp2
 ·exact plainL "word" ∅ hp2
theorem ThR.one' {n:Nat} {u:Str} {t:Aa} (h:ThR n true u t):One (wT (wP n) u t):=by
 cases h with
 | part h h2 _ h3=>
  rw [wT_part h];exact Xq h2 h3
 | plain h h1 h2=>
  rw [wT_plain h h1];exact .word h2.nb.2 h2.nb.1
 | row h _ _=>
  rw [WB h];exact .par _
set_option tactic.hygienic true in
theorem QK {n:Nat} {hd:Str} {ts:List Aa} {fs:List Str} {s t:Nat} (h:Tr (.tuple (.str hd::ts)) s t) (hs:s≤300) (ht:t≤n+1) (c:¬ (hd=="number"||hd=="name")=true) (e:forms.lookup hd=some fs):∀ i∈items (wP n) hd ts,One i:=by
 obtain ⟨_,_,th⟩:=things_of h hs ht c e;have ef:=A5 e;intro i hi;unfold items at hi;rw [e] at hi;rcases Ci.mp hi with hi | hi
 ·split at hi
  ·cases hi
  ·cases A0.mp hi;have q:∀ p∈forms,p.1≠"("∧p.1≠")":=∅;exact .word (q _ ef).2 (q _ ef).1
 ·obtain ⟨p,hp,hi⟩:=Ct.mp hi;have t1:=th p hp;obtain ⟨t,u⟩:=p;unfold itm at hi;split at hi
  ·rename_i c;rw [Al,Az] at c;have z:(members.lookup u).isSome=true:=by
    have c2:u=fs.getLastD "":=c.2;rcases XA _ ef c.1 with q | q <;> rw [c2,show fs.getLastD ""=_ from q] <;> decide+kernel
   cases t1 with
   | part h _ _ _=>rw [show members.lookup (t,u).2=none from term_mem h] at z;cases z
   | plain _ h _=>rw [show members.lookup (t,u).2=none from h] at z;cases z
   | row h _ hx=>
    unfold mem at hi;obtain ⟨y,hy,rfl⟩:=Bo.mp hi;rw [show members.lookup (PyData.tuple _,u).2=_ from h];exact (hx y hy).one
  ·cases A0.mp hi;exact t1.one'
theorem tx_part' {n:Nat} {hd:Str} {ts:List Aa} {fs:List Str} {s t:Nat} (h:Tr (.tuple (.str hd::ts)) s t) (hs:s≤300) (ht:t≤n+1) (c:¬ (hd=="number"||hd=="name")=true) (e:forms.lookup hd=some fs):tx (wP (n+1) (.tuple (.str hd::ts)))=("(":Str)++Str.join " " ((items (wP n) hd ts).map tx)++")":=by
 rw [wP_part,if_neg c,qc2 _ (QK h hs ht c e),XB,jw]
theorem items_len {n:Nat} {hd:Str} {ts:List Aa} {s t:Nat} (h:Tr (.tuple (.str hd::ts)) s t) (hs:s≤300) (ht:t≤n+1) (c:¬ (hd=="number"||hd=="name")=true):wls (items (wP n) hd ts)≤600000:=by
 have a:=wl_part (n+1) h ht;rw [wP_part,if_neg c,wl_par,J2] at a;omega
end Sho
namespace Sho
open PySem Tre PySem.NumText PyProof.Rows
theorem starts_one (x:Str) (c:Nat):Txt.startswith x ⟨#[c]⟩=decide (x.cps.toList.head?=some c):=by
 rw [B5,Bk];unfold Txt.startswith;rw [Al,Bk];have h:=PySem.StrLaws.subAt_one x c 0;rw [← List.head?_eq_getElem?] at h;exact h
def dig (m:Nat):List Nat:=(Nat.toDigits 10 m).map Char.toNat
theorem dig_all (m:Nat):∀ c∈dig m,48≤c∧c≤57:=by
 intro c hc;obtain ⟨ch,hch,e⟩:=Bo.mp hc;rw [← e];exact digit_range (Nat.isDigit_of_mem_toDigits O0 O0 hch)
theorem dig_ne (m:Nat):dig m≠[]:=by
 intro e;have h:=toDigits_len_ge 10 m;rw [List.map_eq_nil_iff.mp e] at h;exact absurd h O0
theorem dig_len {m:Nat} (h:m≤1000000000000):(dig m).length≤13:=by
 unfold dig;rw [Ah];exact toDigits_len_pow O0 O0 ⋯
theorem qcb:∀ m:Nat,m<10→m≠0→(Nat.digitChar m).toNat≠48:=O0
theorem dig_head:∀ (m:Nat),m≠0→(dig m).head?≠some 48:=by
 intro m
 induction m using Nat.strongRecOn with
 | _ m ih=>
  intro h0
  by_cases h:m<10
  ·unfold dig;rw [Nat.toDigits_of_lt_base h];intro z;exact qcb m h h0 (Bb z)
  ·have hm:m % 10<10:=Nat.mod_lt m O0;have t:Nat.toDigits 10 (m / 10)++Nat.toDigits 10 (m % 10)=Nat.toDigits 10 (10*(m / 10)+m % 10):=Nat.toDigits_append_toDigits O0 ⋯ hm;rw [Nat.div_add_mod] at t;have e:dig m=dig (m / 10)++dig (m % 10):=by
    unfold dig;rw [← t,A1]
   have z:=ih (m / 10) ⋯ ⋯;cases q:dig (m / 10) with
   | nil=>exact absurd q (dig_ne _)
   | cons c r=>
    rw [q] at z e;rw [e];exact z
theorem qg8 (m:Nat):(Str.ofString (toString ((m:Nat):Int))).cps.toList=dig m:=PySem.W.KIN.signs_num m
theorem qg9 (m:Nat):(Str.ofString (toString (Int.negSucc m))).cps.toList=45::dig (m+1):=by
 rw [signs_ofString];show (("-"++toString (m+1)).toList).map Char.toNat=_;rw [String.toList_append,A1];show 45::((Nat.repr (m+1)).toList.map Char.toNat)=_;rw [Nat.toList_repr];rfl
theorem yc {x:Str} {c:Nat} (h:x.cps.toList.head?=some c) (hc:c<97):qG x=false:=by
 cases e:qG x with
 | false=>rfl
 | true=>
  unfold qG at e;rw [Al] at e;have hm:c∈x.cps.toList:=List.mem_of_mem_head? (by rw [h];rfl)
  have:=A4.mp e.2 c hm;rw [Al,Bk] at this;omega
theorem all_digit {x:Str} {l:List Nat} (e:x.cps.toList=l) (h:∀ c∈l,48≤c∧c≤57) (hn:l≠[]):Txt.isdigit x=true:=by
 unfold Txt.isdigit;have hl:x.length=l.length:=by rw [← e];exact Bn.symm
 rw [Al];refine ⟨An (by rw [hl];exact Dh.mpr hn),?_⟩
 rw [← Array.all_toList,e,A4];intro c hc;have q:=h c hc;rw [cls_isdigit c ⋯];have z:∀ c,c<58→48≤c→inR 48 57 ⟨#[c]⟩=true:=∅;exact z c ⋯ q.1
theorem slice1 {x:Str} (h:1≤x.length):(Txt.slice x (some 1) none).cps.toList=x.cps.toList.drop 1:=by
 have q:=Az.mp (slice_closes_fromL (x:=x) (i:=1) O0 ⋯ rfl);rw [q];show ((x.cps.toList.drop 1).take _)=_;refine C5 ?_;rw [Dy];have:x.cps.toList.length=x.length:=Bn;omega
structure Num (x:Str) (i:Int):Prop where
 nn:qG x=false
 len:x.length≤14
 val:PySem.intText? x=some i
 neg:Txt.startswith x "-"=true→∃ m,m≠0∧m≤1000000000000∧x.cps.toList=45::dig m
 pos:Txt.startswith x "-"=false→∃ m,m≤1000000000000∧x.cps.toList=dig m
theorem ZG:("-":Str)=⟨#[45]⟩:=∅
theorem num_of {i:Int} (h:jP i=true):Num (Str.ofString (toString i)) i:=by
 unfold jP at h;rw [Al,Bk,Bk] at h;cases i with
 | ofNat m=>
  have hm:m≤1000000000000:=by
   have:=h.2;have e:Int.ofNat m=((m:Nat):Int):=rfl;omega
  have e:=qg8 m;have hl:(Str.ofString (toString (Int.ofNat m))).length=(dig m).length:=by rw [← e];exact Bn.symm
  have hd:=dig_len hm;obtain ⟨c,r,ec⟩:∃ c r,dig m=c::r:=by
   cases q:dig m with
   | nil=>exact absurd q (dig_ne m)
   | cons c r=>exact ⟨c,r,rfl⟩
  have hc:=dig_all m c (by rw [ec];exact Au)
  have st:Txt.startswith (Str.ofString (toString (Int.ofNat m))) "-"=false:=by
   rw [ZG,starts_one,show (Str.ofString (toString (Int.ofNat m))).cps.toList=dig m from e,ec];exact Ar fun z=>by
    have:=Bb z;omega
  refine ⟨yc (c:=c) (by rw [show (Str.ofString (toString (Int.ofNat m))).cps.toList=dig m from e,ec];rfl) ⋯,⋯,?_,fun z=>(by rw [st] at z;cases z),fun _=>⟨m,hm,e⟩⟩
  have v:=intText_digits (x:=Str.ofString (toString (Int.ofNat m))) (by rw [show (Str.ofString (toString (Int.ofNat m))).cps.toList=dig m from e];exact dig_all m) (by rw [show (Str.ofString (toString (Int.ofNat m))).cps.toList=dig m from e];exact dig_ne m) ⋯
  rw [v,show (Str.ofString (toString (Int.ofNat m))).cps.toList=dig m from e];exact congrArg (fun z:Nat=>some (Int.ofNat z)) (PySem.W.KIN.val_back m)
 | negSucc m=>
  have hm:m+1≤1000000000000:=by
   have:=h.1;omega
  have e:=qg9 m;have hl:(Str.ofString (toString (Int.negSucc m))).length=(dig (m+1)).length+1:=by
   rw [← Aj (a:=45),← e];exact Bn.symm
  have hd:=dig_len hm;have st:Txt.startswith (Str.ofString (toString (Int.negSucc m))) "-"=true:=by
   rw [ZG,starts_one,e];exact An rfl
  refine ⟨yc (c:=45) (by rw [e];rfl) O0,⋯,?_,fun _=>⟨m+1,⋯,hm,e⟩,fun z=>(by rw [st] at z;cases z)⟩
  have v:=intText_neg e (dig_all (m+1)) (dig_ne (m+1)) ⋯;rw [v];have w:digitsVal (dig (m+1))=m+1:=PySem.W.KIN.val_back (m+1);rw [w];rfl
end Sho
namespace Wd
open PySem PySem.Builtin PySem.Builtin.Str PySem.StrLaws
def flat (c:Nat) (z:List Nat):List Nat→List Nat
 | []=>[]
 | k::r=>(if k=c then z else [k])++flat c z r
theorem Jd (c:Nat) (z:List Nat):∀ a b:List Nat,flat c z (a++b)=flat c z a++flat c z b
 | [],_=>rfl
 | k::r,b=>by
  show (if k=c then z else [k])++flat c z (r++b)=(if k=c then z else [k])++flat c z r++flat c z b
  rw [Jd c z r b,Bl]
theorem J0 (c:Nat) (z:List Nat):∀ l:List Nat,c∉l→flat c z l=l
 | [],_=>rfl
 | k::r,h=>by
  have hk:¬ k=c:=fun e=>h (by rw [e];exact Au ..)
  unfold flat;rw [if_neg hk,J0 c z r fun m=>h (Ao _ m)];rfl
theorem YQ (c:Nat) (z:Str):∀ parts:List Str,(∀ p∈parts,c∉p.cps.toList)→flat c z.cps.toList (Str.join ⟨#[c]⟩ parts).cps.toList=(Str.join z parts).cps.toList
 | [],_=>rfl
 | [p],h=>J0 c _ _ (h p (A0.mpr rfl))
 | p::q::r,h=>by
  have ih:=YQ c z (q::r) fun a ha=>h a (Ao _ ha);show flat c z.cps.toList (p++⟨#[c]⟩++Str.join ⟨#[c]⟩ (q::r)).cps.toList=(p++z++Str.join z (q::r)).cps.toList;simp only [Str.cps_append,Em];rw [Jd,Jd,ih,J0 c _ _ (h p (Au ..))];have e:flat c z.cps.toList (⟨#[c]⟩:Str).cps.toList=z.cps.toList:=by
   show (if c=c then z.cps.toList else [c])++[]=_
   rw [if_pos rfl,Bi]
  rw [e]
theorem replace_flat (x z:Str) (c:Nat):(Txt.replace x ⟨#[c]⟩ z).cps.toList=flat c z.cps.toList x.cps.toList:=by
 rw [replace_one,← YQ c z _ (split_free x c),join_split]
def wgo:List Nat→List Nat→List (List Nat)
 | [],cur=>if cur=[] then [] else [cur]
 | a::r,cur=>if Unicode.isSpace a=true then (if cur=[] then wgo r [] else cur::wgo r []) else wgo r (cur++[a])
theorem WK (x:Str) (i j:Nat):(strSub x i j).cps.toList=(x.cps.toList.take j).drop i:=by
 unfold strSub;simp only [Array.toList_extract,List.extract_eq_take_drop];rw [List.drop_take]
def wO (x:Str) (cur:Nat):Option Nat→List Nat
 | some b=>(x.cps.toList.take cur).drop b
 | none=>[]
theorem WU (x:Str):∀ (m cur:Nat) (words:Array (Nat×Nat)) (start:Option Nat),cur+m=x.length→SwOk x.length cur (none,words,start)→(∀ b,start=some b→b<cur)→
  (swEnd x (forIn (List.range' cur m) ((none,words,start):SwSt) (swBody x (x.length+1))).run).map (fun p=>(strSub x p.1 p.2).cps.toList)=
   words.toList.map (fun p=>(strSub x p.1 p.2).cps.toList)++wgo (x.cps.toList.drop cur) (wO x cur start)
 | 0,cur,words,start,hm,ok,hb=>by
  have hl:x.length=x.cps.toList.length:=by simp [Str.length]
  rw [Ec ⋯];show (swEnd x (none,words,start)).map _=_;unfold swEnd;cases start with
  | none=>simp [wgo,wO]
  | some b=>
   have hne:(x.cps.toList.take cur).drop b≠[]:=by
    intro e;have:=congrArg List.length e;rw [Dy,B4] at this;have:=hb b rfl;simp at*;omega
   have e1:(x.cps.toList.take x.length)=x.cps.toList.take cur:=by rw [← hm];rfl
   simp only [Du,A1,As,Cd,wgo,wO,WK,e1];exact congrArg (_++ ·) (if_neg hne).symm
 | m+1,cur,words,start,hm,ok,hb=>by
  obtain ⟨_,h2,h3⟩:=ok;have hlt:cur<x.cps.size:=by
   have:x.length=x.cps.size:=rfl;omega
  have hg:x.cps.getD cur 0=x.cps[cur]:=by simp [Array.getD,hlt]
  have hd:x.cps.toList.drop cur=x.cps[cur]::x.cps.toList.drop (cur+1):=by
   rw [List.drop_eq_getElem_cons (by simpa using hlt)]
   simp
  have hsz:¬ ((words.size==x.length+1)=true):=by
   have a:=len_le_wsum words.toList;have b:words.toList.length=words.size:=by simp
   have c:wsum words.toList≤cur:=by
    cases start with
    | none=>exact h3
    | some b=>exact Aw h3.2 h3.1
   rw [Az];omega
  have tk:x.cps.toList.take (cur+1)=x.cps.toList.take cur++[x.cps[cur]]:=by
   rw [Bw];simp [hlt]
  rw [List.range'_succ,En];unfold swBody;simp only [hsz,if_false,hg];rw [hd];cases start with
  | none=>
   cases hsp:Unicode.isSpace x.cps[cur] with
   | false=>
    have ih:=WU x m (cur+1) words (some cur) ⋯ ⟨rfl,h2,Ex cur,h3⟩ (fun b e=>by cases e;omega)
    refine ih.trans ?_
    congr 1
    simp only [wgo,hsp,Dc,if_false,wO]
    congr 1
    rw [tk,List.drop_append_of_le_length (by rw [B4];simp;omega),Ec (by rw [B4];simp;omega)]
   | true=>
    have ih:=WU x m (cur+1) words none ⋯ ⟨rfl,h2,C7 h3⟩ (fun b e=>by cases e)
    refine ih.trans ?_
    congr 1
    simp only [wgo,hsp,if_true,wO]
  | some b=>
   have hbc:=hb b rfl;have hne:(x.cps.toList.take cur).drop b≠[]:=by
    intro e;have:=congrArg List.length e;rw [Dy,B4] at this;simp at this;omega
   cases hsp:Unicode.isSpace x.cps[cur] with
   | false=>
    have ih:=WU x m (cur+1) words (some b) ⋯ ⟨rfl,h2,C7 h3.1,h3.2⟩ (fun b' e=>by cases e;omega)
    refine ih.trans ?_
    congr 1
    simp only [wgo,hsp,Dc,if_false,wO]
    congr 1
    rw [tk,List.drop_append_of_le_length (by rw [B4];simp;omega)]
   | true=>
    have ok':SwOk x.length (cur+1) (none,words.push (b,cur),none):=by
     refine ⟨rfl,fun p hp=>?_,?_⟩
     ·rw [Du,Ci,A0] at hp;rcases hp with hp | rfl
      ·exact h2 p hp
      ·show cur≤x.length;omega
     ·show wsum (words.push (b,cur)).toList≤cur+1;rw [Du,wsum_snoc];have a1:b≤cur:=h3.1;have a2:wsum words.toList≤b:=h3.2;show wsum words.toList+(cur - b+1)≤cur+1;omega
    have ih:=WU x m (cur+1) (words.push (b,cur)) none ⋯ ok' (fun b e=>by cases e)
    refine ih.trans ?_;simp only [Du,A1,As,Cd,wgo,hsp,if_true,wO,Bl,Cc,B2,WK];exact congrArg (_++ ·) (if_neg hne).symm
theorem Zh (x:Str):(spaceWords x (x.length+1)).map (fun p=>(strSub x p.1 p.2).cps.toList)=wgo x.cps.toList []:=by
 rw [sw_eq];have:=WU x x.length 0 #[] none ⋯ ⟨rfl,fun p hp=>by simp at hp,Bm _⟩ (fun b e=>by cases e)
 simpa [wO] using this
set_option tactic.hygienic true in
theorem qcu (x:Str):(Txt.words x).map (fun w=>w.cps.toList)=wgo x.cps.toList []:=by
 unfold Txt.words;split
 ·rename_i h;have e:spaceWords x (x.length+1)=[(0,x.length)]:=by simpa using h
  rw [← Zh,e];simp only [As,Cd,WK,List.drop_zero];rw [C5 (by simp [Str.length])]
 ·rw [← Zh];unfold wordsOf;rw [Bv];rfl
end Wd
namespace Wd
open PySem PySem.Builtin PySem.Builtin.Str
abbrev qU (x:Str):List Nat:=x.cps.toList
theorem qcj {x y:Str} (h:qU x=qU y):x=y:=by
 obtain ⟨a⟩:=x;obtain ⟨b⟩:=y;have:a=b:=Array.ext' h;rw [this]
theorem JS:∀ {xs ys:List Str},xs.map qU=ys.map qU→xs=ys
 | [],[],_=>rfl
 | [],_::_,h=>by cases h
 | _::_,[],h=>by cases h
 | x::xs,y::ys,h=>by
  rw [As,As] at h;injection h with h1 h2
  rw [qcj h1,JS h2]
theorem jR (x y:Str):qU (x++y)=qU x++qU y:=by
 simp only [qU,Str.cps_append,Em]
def ff (l:List Nat):List Nat:=flat 41 [32,41,32] (flat 40 [32,40,32] l)
theorem v7 (a b:List Nat):ff (a++b)=ff a++ff b:=by unfold ff;rw [Jd,Jd]
theorem Wx (y:Str):(Txt.words (Txt.replace (Txt.replace y "(" " ( ") ")" " ) ")).map qU=wgo (ff (qU y)) []:=by
 have e1:=replace_flat y " ( " 40;have e2:=replace_flat (Txt.replace y "(" " ( ") " ) " 41;have a1:((" ( ":Str).cps.toList)=[32,40,32]:=∅;have a2:((" ) ":Str).cps.toList)=[32,41,32]:=∅;have b1:("(":Str)=⟨#[40]⟩:=∅;have b2:(")":Str)=⟨#[41]⟩:=∅;rw [b1] at e2 ⊢;rw [a1] at e1;rw [a2,e1] at e2;rw [b2];show (Txt.words (Txt.replace (Txt.replace y ⟨#[40]⟩ " ( ") ⟨#[41]⟩ " ) ")).map (fun w=>w.cps.toList)=_;rw [qcu,e2];rfl
def okC (c:Nat):Bool:=decide (c=10)||(decide (32≤c)&&decide (c≤126)&&!decide (c=37))
def Jt (c:Nat):Bool:=decide (33≤c)&&decide (c≤126)&&!decide (c=37)&&!decide (c=40)&&!decide (c=41)
theorem qdl:∀ c,c<127→(Jt c=true→Unicode.isSpace c=false∧okC c=true):=∅
theorem Yo {c:Nat} (h:Jt c=true):Unicode.isSpace c=false∧okC c=true:=by
 refine qdl c ?_ h;unfold Jt at h;simp only [Al,Bk] at h;omega
theorem qhp (p:List Nat) (h:p.all Jt=true):ff p=p:=by
 have h40:40∉p:=fun m=>by
  have:=A4.mp h 40 m
  revert this;decide
 have h41:41∉p:=fun m=>by
  have:=A4.mp h 41 m
  revert this;decide
 unfold ff;rw [J0 40 _ p h40,J0 41 _ p h41]
theorem X6:∀ (p L cur:List Nat),p.all Jt=true→wgo (p++L) cur=wgo L (cur++p)
 | [],L,cur,_=>by rw [B2,Bi]
 | a::r,L,cur,h=>by
  rw [D0,Al] at h;show (if Unicode.isSpace a=true then (if cur=[] then wgo (r++L) [] else cur::wgo (r++L) []) else wgo (r++L) (cur++[a]))=_
  rw [(Yo h.1).1,if_neg Ai,X6 r L (cur++[a]) h.2,Bl,List.singleton_append]
def Nx (L:List Nat):Prop:=L=[]∨∃ a r,L=a::r∧Unicode.isSpace a=true
theorem qf5 (p L:List Nat) (hp:p≠[]) (h:Nx L):wgo L p=p::wgo L []:=by
 rcases h with rfl | ⟨a,r,rfl,ha⟩
 ·simp [wgo,hp]
 ·simp [wgo,hp,ha]
structure Mk (b:Bool) (T:Str) (W:List Str):Prop where
 ok:(qU T).all okC=true
 wd:∀ L,(b=false∨Nx L)→wgo (ff (qU T)++L) []=W.map qU++wgo L []
 lay:∀ x∈W,(qU x).all okC=true
theorem Mk.nil:Mk false "" []:=⟨∅,fun L _=>by
 have e:qU ("":Str)=[]:=∅;rw [e];rfl,fun x hx=>by cases hx⟩
theorem qfu {p:List Nat} (h:p.all Jt=true):p.all okC=true:=by
 rw [A4] at h ⊢;exact fun c hc=>(Yo (h c hc)).2
theorem Mk.word {T:Str} {W:List Str} {p:Str} (m:Mk false T W) (h:(qU p).all Jt=true) (hp:qU p≠[]):Mk true (T++p) (W++[p]):=by
 refine ⟨by rw [jR,List.all_append,m.ok,qfu h];rfl,fun L hL=>?_,fun x hx=>?_⟩
 ·have hL':Nx L:=hL.resolve_left O0;rw [jR,v7,qhp _ h,Bl,m.wd _ (.inl rfl),X6 _ _ _ h,B2,qf5 _ _ hp hL',A1,Bl];rfl
 ·rcases Ci.mp hx with hx | hx
  ·exact m.lay x hx
  ·rw [A0.mp hx];exact qfu h
theorem Mk.sep {b:Bool} {T:Str} {W:List Str} {p:Str} {V:List Str} (m:Mk b T W) (h1:(qU p).all okC=true) (h2:∀ L,Nx (ff (qU p)++L)) (h3:∀ L,wgo (ff (qU p)++L) []=V.map qU++wgo L []) (h4:∀ x∈V,(qU x).all okC=true):Mk false (T++p) (W++V):=by
 refine ⟨by rw [jR,List.all_append,m.ok,h1];rfl,fun L _=>?_,fun x hx=>?_⟩
 ·rw [jR,v7,Bl,m.wd _ (.inr (h2 L)),h3 L,A1,Bl]
 ·rcases Ci.mp hx with hx | hx
  ·exact m.lay x hx
  ·exact h4 x hx
def qgl:List Str:=["(",")"," ","\n","  "," \n"]
def Xf (p:Str):List Str:=if p="("∨p=")" then [p] else []
theorem Mk.seps {b:Bool} {T:Str} {W:List Str} {p:Str} (m:Mk b T W) (h:p∈qgl):Mk false (T++p) (W++Xf p):=by
 have nx:∀ (r L:List Nat) (a:Nat),Unicode.isSpace a=true→Nx (a::r++L):=fun r L a ha=> .inr ⟨a,r++L,rfl,ha⟩;have s32:Unicode.isSpace 32=true:=∅;have s10:Unicode.isSpace 10=true:=∅;have s40:Unicode.isSpace 40=false:=∅;have s41:Unicode.isSpace 41=false:=∅;simp only [qgl,Ap,A2,or_false] at h;rcases h with rfl | rfl | rfl | rfl | rfl | rfl
 ·have e:ff (qU ("(":Str))=[32,40,32]:=∅;have ec:qU ("(":Str)=[40]:=∅;have ev:Xf "("=([("(":Str)]:List Str):=∅;rw [ev];exact m.sep ∅ (fun L=>by rw [e];exact nx _ L 32 s32) (fun L=>by rw [e,As,ec];simp [wgo,s32,s40]) ∅
 ·have e:ff (qU (")":Str))=[32,41,32]:=∅;have ec:qU (")":Str)=[41]:=∅;have ev:Xf ")"=([(")":Str)]:List Str):=∅;rw [ev];exact m.sep ∅ (fun L=>by rw [e];exact nx _ L 32 s32) (fun L=>by rw [e,As,ec];simp [wgo,s32,s41]) ∅
 ·have e:ff (qU (" ":Str))=[32]:=∅;have ev:Xf " "=[]:=∅;rw [ev];exact m.sep ∅ (fun L=>by rw [e];exact nx _ L 32 s32) (fun L=>by rw [e];simp [wgo,s32]) ∅
 ·have e:ff (qU ("\n":Str))=[10]:=∅;have ev:Xf "\n"=[]:=∅;rw [ev];exact m.sep ∅ (fun L=>by rw [e];exact nx _ L 10 s10) (fun L=>by rw [e];simp [wgo,s10]) ∅
 ·have e:ff (qU ("  ":Str))=[32,32]:=∅;have ev:Xf "  "=[]:=∅;rw [ev];exact m.sep ∅ (fun L=>by rw [e];exact nx _ L 32 s32) (fun L=>by rw [e];simp [wgo,s32]) ∅
 ·have e:ff (qU (" \n":Str))=[32,10]:=∅;have ev:Xf " \n"=[]:=∅;rw [ev];exact m.sep ∅ (fun L=>by rw [e];exact nx _ L 32 s32) (fun L=>by rw [e];simp [wgo,s32,s10]) ∅
theorem Mk.all {b:Bool} {T:Str} {W:List Str} (m:Mk b T W):(Txt.words (Txt.replace (Txt.replace T "(" " ( ") ")" " ) "))=W:=by
 refine JS ?_;rw [Wx];have:=m.wd [] (.inr (.inl rfl));rw [Bi] at this;rw [this];simp [wgo]
theorem Mk.more {b:Bool} {T:Str} {W:List Str} (m:Mk b T W) {L:Str} {r:List Nat} (h:qU L=32::r):∃ V,(Txt.words (Txt.replace (Txt.replace (T++L) "(" " ( ") ")" " ) "))=W++V:=by
 have s32:Unicode.isSpace 32=true:=∅;have e:(Txt.words (Txt.replace (Txt.replace (T++L) "(" " ( ") ")" " ) ")).map qU=W.map qU++(Txt.words (Txt.replace (Txt.replace L "(" " ( ") ")" " ) ")).map qU:=by
  rw [Wx,Wx,jR,v7];refine m.wd _ (.inr ?_);rw [h];have:ff (32::r)=32::ff r:=by
   have:=v7 [32] r;exact this
  rw [this];exact .inr ⟨32,_,rfl,s32⟩
 rw [← A1] at e;exact ⟨_,JS e⟩
theorem qdw (a:Array Nat):∀ (n:Nat) (acc:Array Nat),((List.replicate n a).foldl (· ++ ·) acc).toList=acc.toList++(List.replicate n a.toList).flatten
 | 0,acc=>by simp
 | n+1,acc=>by
  rw [Cm,B8,qdw a n,Em,Cm,Bp,Bl]
theorem qdv (m:Nat):(List.replicate (m+1) [32,120]).flatten=32::120::(List.replicate m [32,120]).flatten:=by
 rw [Cm,Bp];rfl
theorem qgn:∀ m:Nat,(List.replicate m [32,120]).flatten.length=2*m
 | 0=>rfl
 | m+1=>by
  rw [qdv,Aj,Aj,qgn m];omega
end Wd
namespace Sho
open PySem Tre
def Kid (k:Nat) (u:Str) (t:Aa):Prop:=∃ hands s τ,Pt t u hands s τ∧s≤300∧τ≤k
structure Row (k:Nat) (as:List Aa):Prop where
 kid:∀ x∈as,Kid k "statement" x
 few:as.length≤12
def Nams (ps:List Aa):Prop:=ps.length≤4∧∀ x∈ps,∃ y,x= .str y∧qG y=true
inductive Stm (k:Nat):Aa→Prop
 | one {h:Str} {t:Aa}:h∈(["do","hand","back"]:List Str)→Kid k "term" t→Stm k (.tuple [.str h,t])
 | two {h x:Str} {t:Aa}:h∈(["let","set","fault"]:List Str)→Kid k "term" t→Stm k (.tuple [.str h,.str x,t])
 | try_ {x y:Str} {as bs cs:List Aa}:Row k as→Row k bs→Row k cs→Stm k (.tuple [.str "try",.tuple as,.str x,.str y,.tuple bs,.tuple cs])
 | while_ {t:Aa} {as:List Aa}:Kid k "term" t→Row k as→Stm k (.tuple [.str "while",t,.tuple as])
 | if_ {t:Aa} {as bs:List Aa}:Kid k "term" t→Row k as→Row k bs→Stm k (.tuple [.str "if",t,.tuple as,.tuple bs])
inductive Trm (k:Nat):Aa→Prop
 | num {i:Int}:jP i=true→Trm k (.tuple [.str "number",.int i])
 | name {x:Str}:Trm k (.tuple [.str "name",.str x])
 | two {g:Str} {a b:Aa}:Kid k "term" a→Kid k "term" b→Trm k (.tuple [.str "two",.str g,a,b])
 | fn {h:Str} {ps as:List Aa}:h∈(["fun","loop"]:List Str)→Nams ps→Row k as→Trm k (.tuple [.str h,.tuple ps,.tuple as])
 | call {a:Aa} {as:List Aa}:Kid k "term" a→(∀ x∈as,Kid k "term" x)→as.length≤4→Trm k (.tuple [.str "call",a,.tuple as])
 | step {a b:Aa}:Kid k "term" a→Kid k "term" b→Trm k (.tuple [.str "step",a,b])
theorem row_shape {x:Aa} (h:qi x "body"=true):∃ as,x= .tuple as∧as.length≤12:=by
 cases x with
 | tuple as=>exact ⟨as,rfl,A3 h⟩
 | _=>cases h
theorem X9 {x:Aa} (h:qi x "terms"=true):∃ as,x= .tuple as∧as.length≤4:=by
 cases x with
 | tuple as=>exact ⟨as,rfl,A3 h⟩
 | _=>cases h
theorem names_shape {x:Aa} (h:qi x "names"=true):∃ ps,x= .tuple ps∧Nams ps:=by
 cases x with
 | tuple xs=>
  have e2:qi (.tuple xs) "names"=(decide (xs.length≤4)&&xs.all qY&&decide ((xs.map txt).Nodup)):=rfl;rw [e2,Al,Al] at h;refine ⟨xs,rfl,A3 h.1.1,fun y hy=>?_⟩;have q:=A4.mp h.1.2 y hy;cases y with
  | str z=>exact ⟨z,rfl,q⟩
  | _=>cases q
 | _=>cases h
theorem Z0 {x:Aa} (h:qi x "word"=true):∃ y,x= .str y:=by
 cases x with
 | str y=>exact ⟨y,rfl⟩
 | _=>cases h
theorem Qf {x:Aa} (h:qi x "sign"=true):∃ y,x= .str y:=by
 cases x with
 | str y=>exact ⟨y,rfl⟩
 | _=>cases h
theorem kids_of {k:Nat} {hd:Str} {ts:List Aa} {fs:List Str} {hands:Bool} {s t:Nat} (e:forms.lookup hd=some fs) (tl:Ptl (jx (.tuple (.str hd::ts))) hands s t) (hs:s≤300) (ht:t≤k):∀ p∈ts.zip fs,∀ x u,(x,u)∈qm p.1 p.2→Kid k u x:=fun p hp x u hx=>by
 have hk:(x,u)∈jx (.tuple (.str hd::ts)):=by
  rw [qN e];exact Ct.mpr ⟨p,hp,hx⟩
 have few:∀ {l:List (Aa×Str)} {hands:Bool} {s t:Nat},Ptl l hands s t→∀ q∈l,∃ s' t',Pt q.1 q.2 hands s' t'∧s'≤s∧t'≤t:=fun {l}=>by
  induction l with
  | nil=>intro _ _ _ _ q hq;cases hq
  | cons a r ih=>
   intro hands s t h q hq;obtain ⟨d,v⟩:=a;refine h.el fun s1 t1 s2 t2 es et p l=>?_;subst es et;rcases Ap.mp hq with rfl | hq
   ·exact ⟨s1,t1,p,Nat.le_add_right _ _,Nat.le_max_left _ _⟩
   ·obtain ⟨s',t',a,b,c⟩:=ih l q hq;exact ⟨s',t',a,⋯,Aw c (Nat.le_max_right _ _)⟩
 obtain ⟨s',t',a,b,c⟩:=few tl (x,u) hk;exact ⟨_,s',t',a,⋯,⋯⟩
theorem row_of_kids {k:Nat} {as:List Aa} (h:∀ x u,(x,u)∈qm (.tuple as) "body"→Kid k u x) (hl:as.length≤12):Row k as:=⟨fun x hx=>h x "statement" (Bo.mpr ⟨x,hx,rfl⟩),hl⟩
theorem stm_view {k:Nat} {d:Aa} (h:Kid (k+1) "statement" d):Stm k d:=by
 obtain ⟨hands,s,τ,p,hs,hτ⟩:=h;refine p.el fun s0 t0 es et hf tl=>?_;obtain ⟨hd,ts,fs,l,rfl,hl1,hl2,e,_,hl,hsh,_⟩:=qK hf;have kid:=kids_of (k:=k) e tl ⋯ ⋯;have el:l=(["let","set","do","if","while","hand","back","fault","try"]:List Str):=by
  have z:heads.lookup ("statement":Str)=some (["let","set","do","if","while","hand","back","fault","try"]:List Str):=∅;exact Bb (hl1.symm.trans z)
 subst el;have one:∀ (u:Str),forms.lookup hd=some ([u,"term"]:List Str)→fs=[u,"term"]:=fun u z=>Bb (e.symm.trans z);simp only [Ap,A2,or_false] at hl2;have tT:∀ x,(x,("term":Str))∈ts.zip fs→Kid k "term" x:=fun x hx=>kid _ hx x "term" (A0.mpr rfl);have tB:∀ x,(x,("body":Str))∈ts.zip fs→∃ as,x= .tuple as∧Row k as:=fun x hx=>by
  obtain ⟨as,rfl,ha⟩:=row_shape (hsh _ hx);exact ⟨as,rfl,row_of_kids (fun z u hz=>kid _ hx z u hz) ha⟩
 rcases hl2 with rfl | rfl | rfl | rfl | rfl | rfl | rfl | rfl | rfl
 all_goals cases e
 ·match ts,hl,hsh,tT with
  | [x,y],_,hsh,tT=>
   obtain ⟨z,rfl,_⟩:=zR (hsh (x,"name") (by simp))
   exact .two ∅ (tT y (by simp))
 ·match ts,hl,hsh,tT with
  | [x,y],_,hsh,tT=>
   obtain ⟨z,rfl,_⟩:=zR (hsh (x,"name") (by simp))
   exact .two ∅ (tT y (by simp))
 ·match ts,hl,tT with
  | [x],_,tT=>exact .one ∅ (tT x (by simp))
 ·match ts,hl,tT,tB with
  | [x,y,z],_,tT,tB=>
   obtain ⟨as,rfl,ra⟩:=tB y (by simp)
   obtain ⟨bs,rfl,rb⟩:=tB z (by simp)
   exact .if_ (tT x (by simp)) ra rb
 ·match ts,hl,tT,tB with
  | [x,y],_,tT,tB=>
   obtain ⟨as,rfl,ra⟩:=tB y (by simp)
   exact .while_ (tT x (by simp)) ra
 ·match ts,hl,tT with
  | [x],_,tT=>exact .one ∅ (tT x (by simp))
 ·match ts,hl,tT with
  | [x],_,tT=>exact .one ∅ (tT x (by simp))
 ·match ts,hl,hsh,tT with
  | [x,y],_,hsh,tT=>
   obtain ⟨z,rfl⟩:=Z0 (hsh (x,"word") (by simp))
   exact .two ∅ (tT y (by simp))
 ·match ts,hl,hsh,tB with
  | [a,x,y,b,c],_,hsh,tB=>
   obtain ⟨z,rfl,_⟩:=zR (hsh (x,"name") (by simp))
   obtain ⟨z2,rfl,_⟩:=zR (hsh (y,"name") (by simp))
   obtain ⟨as,rfl,ra⟩:=tB a (by simp)
   obtain ⟨bs,rfl,rb⟩:=tB b (by simp)
   obtain ⟨cs,rfl,rc⟩:=tB c (by simp)
   exact .try_ ra rb rc
theorem trm_view {k:Nat} {d:Aa} (h:Kid (k+1) "term" d):Trm k d:=by
 obtain ⟨hands,s,τ,p,hs,hτ⟩:=h;refine p.el fun s0 t0 es et hf tl=>?_;obtain ⟨hd,ts,fs,l,rfl,hl1,hl2,e,_,hl,hsh,_⟩:=qK hf;have kid:=kids_of (k:=k) e tl ⋯ ⋯;have el:l=(["number","name","two","fun","loop","call","step"]:List Str):=by
  have z:heads.lookup ("term":Str)=some (["number","name","two","fun","loop","call","step"]:List Str):=∅;exact Bb (hl1.symm.trans z)
 subst el;simp only [Ap,A2,or_false] at hl2;have tT:∀ x,(x,("term":Str))∈ts.zip fs→Kid k "term" x:=fun x hx=>kid _ hx x "term" (A0.mpr rfl);have tB:∀ x,(x,("body":Str))∈ts.zip fs→∃ as,x= .tuple as∧Row k as:=fun x hx=>by
  obtain ⟨as,rfl,ha⟩:=row_shape (hsh _ hx);exact ⟨as,rfl,row_of_kids (fun z u hz=>kid _ hx z u hz) ha⟩
 rcases hl2 with rfl | rfl | rfl | rfl | rfl | rfl | rfl
 all_goals cases e
 ·match ts,hl,hsh with
  | [x],_,hsh=>
   have hx:zZ x=true:=hsh (x,"number") (by simp)
   cases x with
   | int i=>exact .num hx
   | _=>cases hx
 ·match ts,hl,hsh with
  | [x],_,hsh=>
   obtain ⟨z,rfl,_⟩:=zR (hsh (x,"name") (by simp))
   exact .name
 ·match ts,hl,hsh,tT with
  | [x,y,z],_,hsh,tT=>
   obtain ⟨g,rfl⟩:=Qf (hsh (x,"sign") (by simp))
   exact .two (tT y (by simp)) (tT z (by simp))
 ·match ts,hl,hsh,tB with
  | [x,y],_,hsh,tB=>
   obtain ⟨ps,rfl,hp⟩:=names_shape (hsh (x,"names") (by simp))
   obtain ⟨as,rfl,ra⟩:=tB y (by simp)
   exact .fn ∅ hp ra
 ·match ts,hl,hsh,tB with
  | [x,y],_,hsh,tB=>
   obtain ⟨ps,rfl,hp⟩:=names_shape (hsh (x,"names") (by simp))
   obtain ⟨as,rfl,ra⟩:=tB y (by simp)
   exact .fn ∅ hp ra
 ·match ts,hl,hsh,tT,kid with
  | [x,y],_,hsh,tT,kid=>
   obtain ⟨as,rfl,ha⟩:=X9 (hsh (y,"terms") (by simp))
   exact .call (tT x (by simp)) (fun z hz=>kid (.tuple as,"terms") (by simp) z "term" (Bo.mpr ⟨z,hz,rfl⟩)) ha
 ·match ts,hl,tT with
  | [x,y],_,tT=>exact .step (tT x (by simp)) (tT y (by simp))
def bws (f:Aa→List Str) (as:List Aa):List Str:=("(":Str)::((as.map f).flatten++[(")":Str)])
def fws (f:Aa→List Str) (h:Str) (ps as:List Aa):List Str:=("(":Str)::h::("(":Str)::(ps.map strOf++((")":Str)::((as.map f).flatten++[(")":Str)])))
theorem wP_one {n:Nat} {h:Str} {t:Aa} (hh:h∈(["do","hand","back"]:List Str)):wP (n+1) (.tuple [.str h,t])=("(":Str)::h::(wP n t++[(")":Str)]):=by
 rw [wP_part];simp only [Ap,A2,or_false] at hh;rcases hh with rfl | rfl | rfl
 all_goals
  rw [if_neg ∅];show ("(":Str)::(([_]++(wP n t++[]))++[(")":Str)])=_;simp
theorem qer (f:Aa→List Str) (as:List Aa):as.map (wT0 f "statement")=as.map f:=List.map_congr_left fun _ _=>rfl
theorem qjg (f:Aa→List Str) (as:List Aa):as.map (wT0 f "term")=as.map f:=List.map_congr_left fun _ _=>rfl
theorem vW (f:Aa→List Str) (as:List Aa):wT f "body" (.tuple as)=bws f as:=by
 rw [WB (m:="statement") ∅,qer];rfl
theorem qes (f:Aa→List Str):∀ ps:List Aa,(ps.map (wT0 f "name")).flatten=ps.map strOf
 | []=>rfl
 | p::r=>by
  rw [As,Bp,qes f r];rfl
theorem qcy (f:Aa→List Str) (ps:List Aa):wT f "names" (.tuple ps)=("(":Str)::(ps.map strOf++[(")":Str)]):=by
 rw [WB (m:="name") ∅,qes]
theorem wP_let {n:Nat} {h x:Str} {t:Aa} (hh:h∈(["let","set","fault"]:List Str)):wP (n+1) (.tuple [.str h,.str x,t])=("(":Str)::h::x::(wP n t++[(")":Str)]):=by
 rw [wP_part];simp only [Ap,A2,or_false] at hh;rcases hh with rfl | rfl | rfl
 all_goals
  rw [if_neg ∅];show ("(":Str)::(([_]++([x]++(wP n t++[])))++[(")":Str)])=_;simp
theorem wP_try {n:Nat} {x y:Str} {as bs cs:List Aa}:wP (n+1) (.tuple [.str "try",.tuple as,.str x,.str y,.tuple bs,.tuple cs])=("(":Str)::"try"::(bws (wP n) as++(x::y::(bws (wP n) bs++(bws (wP n) cs++[(")":Str)])))):=by
 rw [wP_part,if_neg ∅,← vW,← vW,← vW];show ("(":Str)::(([("try":Str)]++(wT (wP n) "body" (.tuple as)++([x]++([y]++(wT (wP n) "body" (.tuple bs)++(wT (wP n) "body" (.tuple cs)++[]))))))++[(")":Str)])=_;simp
theorem wP_while {n:Nat} {t:Aa} {as:List Aa}:wP (n+1) (.tuple [.str "while",t,.tuple as])=("(":Str)::"while"::(wP n t++(bws (wP n) as++[(")":Str)])):=by
 rw [wP_part,if_neg ∅,← vW];show ("(":Str)::(([("while":Str)]++(wP n t++(wT (wP n) "body" (.tuple as)++[])))++[(")":Str)])=_;simp
theorem wP_if {n:Nat} {t:Aa} {as bs:List Aa}:wP (n+1) (.tuple [.str "if",t,.tuple as,.tuple bs])=("(":Str)::"if"::(wP n t++(bws (wP n) as++(bws (wP n) bs++[(")":Str)]))):=by
 rw [wP_part,if_neg ∅,← vW,← vW];show ("(":Str)::(([("if":Str)]++(wP n t++(wT (wP n) "body" (.tuple as)++(wT (wP n) "body" (.tuple bs)++[]))))++[(")":Str)])=_;simp
theorem wP_num {n:Nat} {i:Int}:wP (n+1) (.tuple [.str "number",.int i])=[Str.ofString (toString i)]:=by
 rw [wP_part,if_pos ∅];rfl
theorem wP_name {n:Nat} {x:Str}:wP (n+1) (.tuple [.str "name",.str x])=[x]:=by
 rw [wP_part,if_pos ∅];rfl
theorem wP_two {n:Nat} {g:Str} {a b:Aa}:wP (n+1) (.tuple [.str "two",.str g,a,b])=("(":Str)::g::(wP n a++(wP n b++[(")":Str)])):=by
 rw [wP_part,if_neg ∅];show ("(":Str)::(([g]++(wP n a++(wP n b++[])))++[(")":Str)])=_;simp
theorem wP_step {n:Nat} {a b:Aa}:wP (n+1) (.tuple [.str "step",a,b])=("(":Str)::"step"::(wP n a++(wP n b++[(")":Str)])):=by
 rw [wP_part,if_neg ∅];show ("(":Str)::(([("step":Str)]++(wP n a++(wP n b++[])))++[(")":Str)])=_;simp
theorem wP_call {n:Nat} {a:Aa} {as:List Aa}:wP (n+1) (.tuple [.str "call",a,.tuple as])=("(":Str)::"call"::(wP n a++((as.map (wP n)).flatten++[(")":Str)])):=by
 rw [wP_part,if_neg ∅,← qjg];show ("(":Str)::(([[("call":Str)]]++([wP n a]++(as.map (wT0 (wP n) "term")++[]))).flatten++[(")":Str)])=_;simp
theorem wP_fn {n:Nat} {h:Str} {ps as:List Aa} (hh:h∈(["fun","loop","main"]:List Str)):wP (n+1) (.tuple [.str h,.tuple ps,.tuple as])=fws (wP n) h ps as:=by
 unfold fws;rw [wP_part];have e:=qcy (wP n) ps;simp only [Ap,A2,or_false] at hh;rcases hh with rfl | rfl | rfl
 all_goals
  rw [if_neg ∅,← qer];show ("(":Str)::(([[_]]++([wT (wP n) "names" (.tuple ps)]++(as.map (wT0 (wP n) "statement")++[]))).flatten++[(")":Str)])=_;rw [e];simp
theorem len_wl:∀ ws:List Str,ws.length≤wl ws
 | []=>Ax _
 | w::r=>by
  have:=len_wl r;rw [wl_cons,Aj];omega
theorem kid_len {n:Nat} {u:Str} {t:Aa} (h:Kid n u t):(wP n t).length≤600000:=by
 obtain ⟨hands,s,τ,p,hs,hτ⟩:=h;have a:=wl_part n p.tr hτ;have b:=len_wl (wP n t);omega
end Sho
namespace Sho
open PySem Tre Wd
def ZX (x:Str):Prop:=(qU x).all Jt=true∧qU x≠[]
def WOk (x:Str):Prop:=x="("∨x=")"∨ZX x
def isB (x:Str):Bool:=x=="("||x==")"
theorem qbw {x:Str} (h:ZX x):isB x=false:=by
 unfold isB;rw [De,Bf,Bf];constructor
 ·rintro rfl;exact absurd h.1 ∅
 ·rintro rfl;exact absurd h.1 ∅
theorem isB_iff {x:Str}:isB x=true↔x="("∨x=")":=by
 unfold isB;rw [Bt,Az,Az]
theorem in_par {x:Str} (h:WOk x):(!(Builtin.Str.occurrences ("()":Str) x 0 ("()":Str).length 1).isEmpty)=isB x:=by
 rcases h with rfl | rfl | h
 ·decide+kernel
 ·decide+kernel
 ·rw [qbw h,Bs];intro z;obtain ⟨i,hi,hs⟩:=(PySem.StrLaws.found_iff ("()":Str) x).mp z;rw [PySem.StrLaws.subAt_eq,Az] at hs;have e:(("()":Str).cps.toList)=[40,41]:=∅;rw [e] at hs;have hm:∀ c∈qU x,c=40∨c=41:=fun c hc=>by
   have hc':c∈x.cps.toList:=hc;rw [← hs] at hc';have:=Ei (Ce hc');simpa using this
  cases q:qU x with
  | nil=>exact h.2 q
  | cons c r=>
   have hc:c∈qU x:=by rw [q];exact Au
   have w:=A4.mp h.1 c hc;rcases hm c hc with rfl | rfl <;> exact absurd w O0
def sepT (p:Option Str) (x:Str):Str:=if (p=none∨p=some ("(":Str))∨x=")" then "" else " "
theorem YF:∀ (r:List Str) (w:Str),(w::r).getLast?=some (zE w r)
 | [],_=>rfl
 | x::r,w=>by
  rw [List.getLast?_cons_cons];exact YF r x
theorem tx_snoc (ws:List Str) (x:Str):tx (ws++[x])=tx ws++sepT ws.getLast? x++x:=by
 cases ws with
 | nil=>
  show tx [x]=""++sepT none x++x;unfold sepT;rw [if_pos (.inl (.inl rfl)),tx,run,JL,vh,vh]
 | cons w r=>
  rw [YF,Cc,tx,tx,run_app,run,run,JL,jw,jw]
  congr 2
  unfold glue sepT
  congr 1
  unfold tight
  by_cases c:zE w r="("∨x=")"
  ·rw [if_pos (by rw [Bt,Az,Az];exact c),if_pos (c.elim (fun z=> .inl (.inr (by rw [z]))) .inr)]
  ·rw [if_neg (by rw [Bt,Az,Az];exact c),if_neg]
   rintro ((z | z) | z)
   ·cases z
   ·exact c (.inl (Bb z))
   ·exact c (.inr z)
inductive SepOk (p:Option Str) (x:Str):Str→Prop
 | blank {s:Str}:s∈([" ","\n","  "," \n "]:List Str)→SepOk p x s
 | tight:((p=none∨p=some ("(":Str))∨p=some (")":Str))∨isB x=true→SepOk p x ""
inductive Mixed:List Str→Str→Prop
 | nil:Mixed [] ""
 | snoc {ws:List Str} {T x s:Str}:Mixed ws T→SepOk ws.getLast? x s→Mixed (ws++[x]) (T++s++x)
set_option tactic.hygienic true in
theorem qgk (p:Option Str) (x:Str):SepOk p x (sepT p x):=by
 unfold sepT;split
 ·rename_i h;exact .tight (h.elim (fun z=> .inl (.inl z)) fun z=> .inr (isB_iff.mpr (.inr z)))
 ·exact .blank ∅
theorem mixed_tx:∀ (n:Nat) (ws:List Str),ws.length=n→Mixed ws (tx ws)
 | 0,ws,h=>by
  rw [List.eq_nil_of_length_eq_zero h];exact .nil
 | n+1,ws,h=>by
  have hne:ws≠[]:=fun z=>by rw [z] at h;cases h
  have e:=List.dropLast_concat_getLast hne;rw [← e,tx_snoc];exact .snoc (mixed_tx n _ (by rw [List.length_dropLast];omega)) (qgk _ _)
theorem YX {b:Bool} {T:Str} {W:List Str} {s:Str} (m:Mk b T W) (h:s∈([" ","\n","  "," \n "]:List Str)):Mk false (T++s) W:=by
 have one:∀ {b:Bool} {T:Str} (m:Mk b T W) (s:Str),s∈qgl→Xf s=[]→Mk false (T++s) W:=fun m s h1 h2=>by
  have z:=m.seps h1;rw [h2,Bi] at z;exact z
 simp only [Ap,A2,or_false] at h;rcases h with rfl | rfl | rfl | rfl
 ·exact one m " " ∅ ∅
 ·exact one m "\n" ∅ ∅
 ·exact one m "  " ∅ ∅
 ·have z:=one (one m " \n" ∅ ∅) " " ∅ ∅;have e:(" \n ":Str)=" \n"++" ":=∅;rw [e,← jw];exact z
theorem Mixed.mk {ws:List Str} {T:Str} (h:Mixed ws T):(∀ x∈ws,WOk x)→∃ b,Mk b T ws∧(b=true→∃ y,ws.getLast?=some y∧isB y=false):=by
 induction h with
 | nil=>exact fun _=>⟨false,Mk.nil,fun z=>by cases z⟩
 | @snoc ws T x s m sp ih=>
  intro hw;obtain ⟨b,mk,hb⟩:=ih fun y hy=>hw y (B1 _ hy);have hx:=hw x (by simp)
  have br:∀ {b:Bool} {T:Str},Mk b T ws→isB x=true→Mk false (T++x) (ws++[x]):=fun m h=>by
   have q:x∈qgl∧Xf x=[x]:=by
    rcases isB_iff.mp h with rfl | rfl <;> decide+kernel
   have z:=m.seps q.1;rw [q.2] at z;exact z
  have last:(ws++[x]).getLast?=some x:=Dw
  by_cases c:isB x=true
  ·refine ⟨false,?_,fun z=>by cases z⟩
   cases sp with
   | blank hs=>exact br (YX mk hs) c
   | tight _=>
    rw [JL];exact br mk c
  ·have pl:ZX x:=by
    rcases hx with z | z | z
    ·exact absurd (isB_iff.mpr (.inl z)) c
    ·exact absurd (isB_iff.mpr (.inr z)) c
    ·exact z
   refine ⟨true,?_,fun _=>⟨x,last,Bs.mpr c⟩⟩;cases sp with
   | blank hs=>exact (YX mk hs).word pl.1 pl.2
   | tight ht=>
    have b0:b=false:=by
     cases b with
     | false=>rfl
     | true=>
      obtain ⟨y,e,hy⟩:=hb rfl;rcases ht with ((z | z) | z) | z
      ·rw [e] at z;cases z
      ·rw [e] at z;cases z;exact absurd hy ∅
      ·rw [e] at z;cases z;exact absurd hy ∅
      ·exact absurd z c
    subst b0;rw [JL];exact mk.word pl.1 pl.2
theorem Mixed.words {ws:List Str} {T:Str} (h:Mixed ws T) (hw:∀ x∈ws,WOk x):Txt.words (Txt.replace (Txt.replace T "(" " ( ") ")" " ) ")=ws∧(qU T).all okC=true:=by
 obtain ⟨b,mk,_⟩:=h.mk hw;exact ⟨mk.all,mk.ok⟩
theorem QC {x:Str} (h:qG x=true):ZX x:=by
 unfold qG at h;rw [Al,Al] at h;have h1:=A3 h.1.1;constructor
 ·rw [A4];intro c hc;have:=A4.mp h.2 c hc;rw [Al,Bk,Bk] at this;have z:∀ c,c<123→97≤c→Jt c=true:=∅;exact z c ⋯ this.1
 ·intro z;have hl:x.cps.toList.length=x.length:=Bn;rw [show x.cps.toList=[] from z] at hl;simp at hl;omega
theorem yn {l:List Nat} (h:∀ c∈l,48≤c∧c≤57):l.all Jt=true:=by
 rw [A4];intro c hc;have:=h c hc;have z:∀ c,c<58→48≤c→Jt c=true:=∅;exact z c ⋯ this.1
theorem YB {i:Int} (h:jP i=true):ZX (Str.ofString (toString i)):=by
 have n:=num_of h;cases st:Txt.startswith (Str.ofString (toString i)) "-" with
 | true=>
  obtain ⟨m,_,_,e⟩:=n.neg st;constructor
  ·show (Str.ofString (toString i)).cps.toList.all Jt=true;rw [e,D0,yn (dig_all m)];decide+kernel
  ·show (Str.ofString (toString i)).cps.toList≠[];rw [e];exact Ef _ _
 | false=>
  obtain ⟨m,_,e⟩:=n.pos st;constructor
  ·show (Str.ofString (toString i)).cps.toList.all Jt=true;rw [e,yn (dig_all m)]
  ·show (Str.ofString (toString i)).cps.toList≠[];rw [e];exact dig_ne m
structure Wd1 (x:Str):Prop where
 ok:WOk x
 len:x.length≤14
theorem Y6 {x:Str} (h:qG x=true):Wd1 x:=⟨.inr (.inr (QC h)),by
 have w:x.length+1+0≤9:=name_wl h;omega⟩
theorem Wy {t:Aa} {u:Str} (hs:u∈(["number","name","word","sign"]:List Str)) (h:qi t u=true):Wd1 (strOf t):=by
 simp only [Ap,A2,or_false] at hs;rcases hs with rfl | rfl | rfl | rfl
 ·have e:qi t "number"=zZ t:=rfl;rw [e] at h;cases t with
  | int i=>exact ⟨.inr (.inr (YB h)),(num_of h).len⟩
  | _=>cases h
 ·obtain ⟨y,rfl,hy⟩:=zR h;exact Y6 hy
 ·cases t with
  | str x=>
   have e:qi (.str x) "word"=(qG x&&x !="any"):=rfl;rw [e,Al] at h;exact Y6 h.1
  | _=>cases h
 ·cases t with
  | str x=>
   have e:qi (.str x) "sign"=signs.any fun y=>y==x:=rfl;rw [e] at h;obtain ⟨y,hy,hx⟩:=C4.mp h;cases Az.mp hx;have q:∀ y∈signs,((qU y).all Jt&&!(qU y).isEmpty&&decide (y.length≤14))=true:=∅;have z:=q _ hy;rw [Al,Al] at z;refine ⟨.inr (.inr ⟨z.1.1,fun w=>?_⟩),A3 z.2⟩;have z2:=z.1.2;rw [show qU x=[] from w] at z2;cases z2
  | _=>cases h
theorem qf6:∀ p∈forms,((qU p.1).all Jt&&!(qU p.1).isEmpty&&decide (p.1.length≤14))=true:=∅
theorem qcw {is:List (List Str)} (h:∀ i∈is,∀ x∈i,Wd1 x):∀ x∈("(":Str)::(is.flatten++[(")":Str)]),Wd1 x:=by
 intro x hx;rcases Ap.mp hx with rfl | hx
 ·exact ⟨.inl rfl,∅⟩
 rcases Ci.mp hx with hx | hx
 ·obtain ⟨i,hi,hx⟩:=List.mem_flatten.mp hx;exact h i hi x hx
 ·cases A0.mp hx;exact ⟨.inr (.inl rfl),∅⟩
theorem qcx {f:Aa→List Str} {t:Aa} {u:Str} (hu:u∈(["names","body","terms"]:List Str)) (h:qi t u=true) (kid:∀ z v,(z,v)∈qm t u→∀ x∈f z,Wd1 x):∀ i∈mem f u t,∀ x∈i,Wd1 x:=by
 intro i hi x hx;cases t with
 | tuple xs=>
  obtain ⟨z,hz,rfl⟩:=Bo.mp hi;simp only [Ap,A2,or_false] at hu;rcases hu with rfl | rfl | rfl
  ·have e2:qi (.tuple xs) "names"=(decide (xs.length≤4)&&xs.all qY&&decide ((xs.map txt).Nodup)):=rfl;rw [e2,Al,Al] at h;have q:=A4.mp h.1.2 z hz;cases z with
   | str y=>
    have hx':x∈[y]:=hx;cases A0.mp hx';exact Y6 q
   | _=>cases q
  ·exact kid z "statement" (Bo.mpr ⟨z,hz,rfl⟩) x hx
  ·exact kid z "term" (Bo.mpr ⟨z,hz,rfl⟩) x hx
 | _=>cases hi
set_option tactic.hygienic true in
theorem wd_part:∀ (n:Nat) {d:Aa} {s t:Nat},Tr d s t→t≤n→∀ x∈wP n d,Wd1 x
 | 0,_,_,_,h,ht=>h.el fun _ _ _ _ _ et _ _=>⋯
 | n+1,_,_,_,h,ht=>h.el fun sh hands s0 t0 es et hf tl=>by
  obtain ⟨hd,ts,fs,l,rfl,_,_,e,h5,hl,hs,_⟩:=qK hf;have ef:=A5 e;rw [wP_part]
  by_cases c:(hd=="number"||hd=="name")=true
  ·rw [if_pos c];obtain ⟨x,r,rfl,hx⟩:=part_first e hl hs c;intro y hy;cases A0.mp hy;rcases hx with hx | hx
   ·exact Wy (u:="number") ∅ hx
   ·exact Wy (u:="name") ∅ hx
  ·rw [if_neg c];refine qcw fun i hi=>?_;have kid:∀ p∈ts.zip fs,∀ z u,(z,u)∈qm p.1 p.2→∀ x∈wP n z,Wd1 x:=fun p hp z u hz=>by
    have hk:z∈jY (.tuple (.str hd::ts)):=by
     unfold jY;rw [qN e];exact Bo.mpr ⟨(z,u),Ct.mpr ⟨p,hp,hz⟩,rfl⟩
    obtain ⟨s',t',q,_,b⟩:=tl.mem z hk;exact wd_part n q ⋯
   unfold items at hi;rw [e] at hi;rcases Ci.mp hi with hi | hi
   ·split at hi
    ·cases hi
    ·cases A0.mp hi;intro y hy;cases A0.mp hy;have z:=qf6 _ ef;rw [Al,Al] at z;refine ⟨.inr (.inr ⟨z.1.1,fun w=>?_⟩),A3 z.2⟩;have z2:=z.1.2;rw [show qU ((hd,fs).1)=[] from w] at z2;cases z2
   ·obtain ⟨p,hp,hi⟩:=Ct.mp hi;have kd:=kid p hp;have hsp:=hs p hp;have hu:=qbp _ ef p.2 (C0 hp).2;obtain ⟨t,u⟩:=p;unfold itm at hi;split at hi
    ·rename_i c2;rw [Al,Az] at c2;refine qcx ?_ hsp kd i hi;have hb:=XA _ ef c2.1;rw [c2.2];rcases hb with q | q <;> rw [show ((some fs).getD []).getLastD ""=_ from q] <;> decide+kernel
    ·cases A0.mp hi;show ∀ x∈wT (wP n) u t,Wd1 x;have hu':u∈(["names","body","number","name","sign","term","terms","word"]:List Str):=hu;have q1:∀ u∈(["names","body","number","name","sign","term","terms","word"]:List Str),(members.lookup u).isSome=true→u∈(["names","body","terms"]:List Str):=∅;have q2:∀ u∈(["names","body","number","name","sign","term","terms","word"]:List Str),¬ (members.lookup u).isSome=true→¬ (u=="term"||u=="statement")=true→u∈(["number","name","word","sign"]:List Str):=∅;unfold wT
     by_cases m:(members.lookup u).isSome=true
     ·rw [if_pos m];exact qcw (qcx (q1 u hu' m) hsp kd)
     ·rw [if_neg m];unfold wT0
      by_cases tm:(u=="term"||u=="statement")=true
      ·rw [if_pos tm];rw [Bt,Az,Az] at tm;rcases tm with rfl | rfl
       ·exact kd t "term" (A0.mpr rfl)
       ·exact absurd hu' ∅
      ·rw [if_neg tm];intro y hy;cases A0.mp hy;exact Wy (q2 u hu' m tm) hsp
end Sho
namespace Sho
open PySem Tre
def cst:Str→List Str→Int
 | _,[]=>0
 | p,w::r=>(2*(w.length:Int)+(if tight p w=true then 0 else 3) - 3)+cst w r
def wsum (ws:List Str):Int:=(ws.map fun w=>(w.length:Int)+3).sum
theorem zc:∀ (a b:List Str) (p:Str),cst p (a++b)=cst p a+cst (zE p a) b
 | [],b,p=>by
  show cst p b=0+cst p b;omega
 | w::r,b,p=>by
  rw [Cc,cst,cst,zE,zc r b w];omega
theorem qae:∀ (ws:List Str) (p:Str),3*((run p ws).length:Int)=wsum ws+cst p ws
 | [],_=>rfl
 | w::r,p=>by
  have ih:=qae r w;rw [run,len_app,glue,len_app,cst];have e:wsum (w::r)=(w.length:Int)+3+wsum r:=by
   unfold wsum;rw [As,B9]
  rw [e];have s:((Str.ofString (if tight p w=true then "" else " ")).length:Int)=(if tight p w=true then 0 else 1):=by split <;> decide+kernel
  push_cast
  rw [s];split <;> omega
theorem qii (w:Str) (r:List Str):3*((tx (w::r)).length:Int)=wsum (w::r)+(2*(w.length:Int) - 3)+cst w r:=by
 have h:=qae r w;rw [tx,len_app];have e:wsum (w::r)=(w.length:Int)+3+wsum r:=by
  unfold wsum;rw [As,B9]
 rw [e]
 push_cast
 omega
theorem VE {p w:Str} (h1:p≠"(") (h2:w≠")"):tight p w=false:=by
 unfold tight;rw [De,Bf,Bf];exact ⟨h1,h2⟩
theorem WF (w:Str):tight "(" w=true:=by
 unfold tight;rw [Bt];exact .inl (Az.mpr rfl)
theorem wA (p:Str):tight p ")"=true:=by
 unfold tight;rw [Bt];exact .inr (Az.mpr rfl)
theorem qa0 {ws:List Str} (h:One ws) {p q:Str} (hp:p≠"(") (hq:q≠"("):cst p ws=cst q ws∧cst "(" ws=cst q ws - 3:=by
 obtain ⟨w,r,rfl,h1,_⟩:=h;rw [cst,cst,cst,VE hp h1,VE hq h1,WF];constructor
 ·rfl
 ·show (2*(w.length:Int)+0 - 3)+cst w r=(2*(w.length:Int)+3 - 3)+cst w r - 3;omega
theorem jc (p:Str):cst p [(")":Str)]= -1:=by
 rw [cst,cst,wA];rfl
theorem jo {p:Str} (hp:p≠"(") (r:List Str):cst p (("(":Str)::r)=2+cst "(" r:=by
 rw [cst,VE hp ∅];rfl
theorem jA (h:Str) (r:List Str):cst "(" (h::r)=2*(h.length:Int) - 3+cst h r:=by
 rw [cst,WF];show (2*(h.length:Int)+0 - 3)+_=_;omega
theorem J1 {p x:Str} (hp:p≠"(") (hx:x≠")") (r:List Str):cst p (x::r)=2*(x.length:Int)+cst x r:=by
 rw [cst,VE hp hx];show (2*(x.length:Int)+3 - 3)+_=_;omega
theorem zr {n:Nat} {u:Str} {t:Aa} (h:Kid n u t):One (wP n t):=by
 obtain ⟨_,_,τ,p,_,hτ⟩:=h;exact Xq p.tr hτ
def cx (ws:List Str):Int:=cst "x" ws
theorem JR {ws:List Str} (h:One ws) {p:Str} (hp:p≠"("):cst p ws=cx ws:=(qa0 h hp ∅).1
theorem qhr {ws:List Str} (h:One ws):cst "(" ws=cx ws - 3:=(qa0 (p:="x") h ∅ ∅).2
theorem Wv {f:Aa→List Str}:∀ (as:List Aa) (p:Str),p≠"("→(∀ x∈as,One (f x)∧0≤cx (f x))→0≤cst p (as.map f).flatten∧zE p (as.map f).flatten≠"("
 | [],p,hp,_=>⟨Eb _,hp⟩
 | x::r,p,hp,h=>by
  obtain ⟨h1,h2⟩:=h x Au;obtain ⟨a,b⟩:=Wv r (zE p (f x)) (jQ h1) fun y hy=>h y (Ao _ hy);rw [As,Bp,zc,JY,JR h1 hp];exact ⟨⋯,b⟩
theorem v8 {f:Aa→List Str} {as:List Aa} {p:Str} (hp:p≠"(") (h:∀ x∈as,One (f x)∧3≤cx (f x)):1≤cst p (bws f as)∧zE p (bws f as)≠"(":=by
 have e:bws f as=("(":Str)::((as.map f).flatten++[(")":Str)]):=rfl;rw [e];constructor
 ·rw [jo hp,zc,jc];cases as with
  | nil=>
   show (1:Int)≤2+(0+ -1);decide
  | cons x r=>
   obtain ⟨h1,h2⟩:=h x Au;obtain ⟨a,_⟩:=Wv (f:=f) r (zE "(" (f x)) (jQ h1) fun y hy=>⟨(h y (Ao _ hy)).1,by have:=(h y (Ao _ hy)).2;omega⟩
   rw [As,Bp,zc,qhr h1];omega
 ·show zE "(" ((as.map f).flatten++[(")":Str)])≠"(";rw [JY];show (")":Str)≠"(";decide+kernel
theorem qap {x:Str} (h:qG x=true):1≤(x.length:Int):=by
 unfold qG at h;rw [Al,Al] at h;have:=A3 h.1.1;omega
theorem YT:∀ (ps:List Aa) (p:Str),p≠"("→(∀ x∈ps,∃ y,x= .str y∧qG y=true)→0≤cst p (ps.map strOf)∧zE p (ps.map strOf)≠"("
 | [],p,hp,_=>⟨Eb _,hp⟩
 | x::r,p,hp,h=>by
  obtain ⟨y,rfl,hy⟩:=h x Au;obtain ⟨a,b⟩:=YT r y (name_nb hy).1 fun z hz=>h z (Ao _ hz);have l:=qap hy;refine ⟨?_,b⟩;rw [As];show 0≤cst p (y::r.map strOf);rw [J1 hp (name_nb hy).2];omega
theorem qa1 {f:Aa→List Str} {h:Str} {ps as:List Aa} (hh:h≠"("∧h≠")") (hl:3≤(h.length:Int)) (np:∀ x∈ps,∃ y,x= .str y∧qG y=true) (ha:∀ x∈as,One (f x)∧0≤cx (f x)):∃ r,fws f h ps as=("(":Str)::r∧2≤cst "(" r:=by
 refine ⟨_,rfl,?_⟩;rw [jA,jo hh.1,zc];have rest:∀ p:Str,-1≤cst p ((")":Str)::((as.map f).flatten++[(")":Str)]))+1:=fun p=>by
  obtain ⟨a,_⟩:=Wv (f:=f) as ")" ∅ ha;have e:cst p ((")":Str)::((as.map f).flatten++[(")":Str)]))= -1+cst ")" ((as.map f).flatten++[(")":Str)]):=by
   rw [cst,wA];rfl
  rw [e,zc,jc];omega
 have r1:=rest (zE "(" (ps.map strOf));cases ps with
 | nil=>
  have e:cst "(" (([]:List Aa).map strOf)=0:=rfl;rw [e];omega
 | cons x r=>
  obtain ⟨y,rfl,hy⟩:=np x Au;obtain ⟨a,_⟩:=YT r y (name_nb hy).1 fun z hz=>np z (Ao _ hz);have l:=qap hy;have e:cst "(" ((PyData.str y::r).map strOf)=2*(y.length:Int) - 3+cst y (r.map strOf):=jA y _;rw [e];omega
theorem qie:∀ (n:Nat),(∀ d,Kid n "term" d→2≤cx (wP n d))∧(∀ d,Kid n "statement" d→3≤cx (wP n d))
 | 0=>⟨fun d h=>by obtain ⟨_,_,τ,p,_,hτ⟩:=h;exact p.el fun _ _ _ et _ _=>⋯,fun d h=>by obtain ⟨_,_,τ,p,_,hτ⟩:=h;exact p.el fun _ _ _ et _ _=>⋯⟩
 | n+1=>by
  obtain ⟨IT,IS⟩:=qie n;have xn:("x":Str)≠"(":=∅;have row:∀ {as:List Aa},Row n as→∀ x∈as,One (wP n x)∧3≤cx (wP n x):=fun r x hx=>⟨zr (r.kid x hx),IS x (r.kid x hx)⟩;have row0:∀ {as:List Aa},Row n as→∀ x∈as,One (wP n x)∧0≤cx (wP n x):=fun r x hx=>⟨zr (r.kid x hx),by have:=IS x (r.kid x hx);omega⟩
  have trow:∀ {as:List Aa},(∀ x∈as,Kid n "term" x)→∀ x∈as,One (wP n x)∧0≤cx (wP n x):=fun r x hx=>⟨zr (r x hx),by have:=IT x (r x hx);omega⟩
  constructor
  ·intro d hk;have hp:=hk;unfold cx;cases trm_view hk with
   | @num i hi=>
    rw [wP_num,J1 xn (W8 i).2,cst];have hl:1≤((Str.ofString (toString i)).length:Int):=by
     have l0:0<(Str.ofString (toString i)).cps.toList.length:=Dh.mpr (YB hi).2;have e:(Str.ofString (toString i)).cps.toList.length=(Str.ofString (toString i)).length:=Bn;omega
    omega
   | @name x=>
    obtain ⟨hands,s,τ,p,_,hτ⟩:=hp;have hw:=wd_part (n+1) p.tr hτ x (by rw [wP_name];exact A0.mpr rfl)
    have hl:1≤(x.length:Int):=by
     have e:x.cps.toList.length=x.length:=Bn;rcases hw.ok with z | z | z
     ·rw [z];decide+kernel
     ·rw [z];decide+kernel
     ·have l0:0<x.cps.toList.length:=Dh.mpr z.2;omega
    have hx:x≠")":=fun z=>by
     have o:=Xq p.tr hτ;rw [wP_name,z] at o;obtain ⟨w,r,e,h1,_⟩:=o;cases e;exact h1 rfl
    rw [wP_name,J1 xn hx,cst];omega
   | @two g a b ka kb=>
    obtain ⟨hands,s,τ,p,_,hτ⟩:=hp;have hw:=wd_part (n+1) p.tr hτ g (by rw [wP_two];simp)
    have hl:1≤(g.length:Int):=by
     have e:g.cps.toList.length=g.length:=Bn;rcases hw.ok with z | z | z
     ·rw [z];decide+kernel
     ·rw [z];decide+kernel
     ·have l0:0<g.cps.toList.length:=Dh.mpr z.2;omega
    have hg:g≠"(":=by
     refine p.el fun s0 t0 es et hf tl=>?_;obtain ⟨hd,ts,fs,l,e0,_,_,e,_,_,hs,_⟩:=qK hf;cases e0;have e2:forms.lookup ("two":Str)=some (["sign","term","term"]:List Str):=∅;cases e.symm.trans e2;exact (JW (t:= .str g) (sh:="sign") (hs (.str g,"sign") (by simp)) ∅).1
    have i1:=IT a ka;have i2:=IT b kb;rw [wP_two,jo xn,jA,zc,zc,jc,JR (zr ka) hg,JR (zr kb) (jQ (zr ka))];omega
   | @fn h ps as hh nm ra=>
    have hh3:h∈(["fun","loop","main"]:List Str):=by
     have z:∀ h∈(["fun","loop"]:List Str),h∈(["fun","loop","main"]:List Str):=∅;exact z h hh
    have z:∀ h∈(["fun","loop"]:List Str),(h≠"("∧h≠")")∧3≤(h.length:Int):=∅;obtain ⟨z1,z2⟩:=z h hh;obtain ⟨r,e,c⟩:=qa1 (f:=wP n) z1 z2 nm.2 (row0 ra);rw [wP_fn hh3,e,jo xn];omega
   | @call a as ka kas _=>
    have i1:=IT a ka;obtain ⟨i2,_⟩:=Wv (f:=wP n) as (zE "call" (wP n a)) (jQ (zr ka)) (trow kas);rw [wP_call,jo xn,jA,zc,zc,jc,JR (zr ka) ∅];have hl:((("call":Str).length:Nat):Int)=4:=∅;rw [hl];omega
   | @step a b ka kb=>
    have i1:=IT a ka;have i2:=IT b kb;rw [wP_step,jo xn,jA,zc,zc,jc,JR (zr ka) ∅,JR (zr kb) (jQ (zr ka))];have hl:((("step":Str).length:Nat):Int)=4:=∅;rw [hl];omega
  ·intro d hk;have hp:=hk;unfold cx;cases stm_view hk with
   | @one h t hh kt=>
    have z:∀ h∈(["do","hand","back"]:List Str),h≠"("∧2≤(h.length:Int):=∅;obtain ⟨z1,z2⟩:=z h hh;have i1:=IT t kt;rw [wP_one hh,jo xn,jA,zc,jc,JR (zr kt) z1];omega
   | @two h x t hh kt=>
    have z:∀ h∈(["let","set","fault"]:List Str),h≠"("∧3≤(h.length:Int):=∅;obtain ⟨z1,z2⟩:=z h hh;have i1:=IT t kt;obtain ⟨hands,s,τ,p,_,hτ⟩:=hp;have hx:x≠"("∧x≠")":=by
     refine p.el fun s0 t0 es et hf tl=>?_;obtain ⟨hd,ts,fs,l,e0,_,_,e,_,_,hs,_⟩:=qK hf;cases e0;have q:∀ h∈(["let","set","fault"]:List Str),forms.lookup h=some (["name","term"]:List Str)∨forms.lookup h=some (["word","term"]:List Str):=∅;rcases q h hh with q | q <;> cases e.symm.trans q
     ·exact JW (t:= .str x) (sh:="name") (hs (.str x,"name") (by simp)) ∅
     ·exact JW (t:= .str x) (sh:="word") (hs (.str x,"word") (by simp)) ∅
    rw [wP_let hh,jo xn,jA,J1 z1 hx.2,zc,jc,JR (zr kt) hx.1];omega
   | @try_ x y as bs cs ra rb rc=>
    obtain ⟨hands,s,τ,p,_,hτ⟩:=hp;have hx:(x≠"("∧x≠")")∧(y≠"("∧y≠")"):=by
     refine p.el fun s0 t0 es et hf tl=>?_;obtain ⟨hd,ts,fs,l,e0,_,_,e,_,_,hs,_⟩:=qK hf;cases e0;have e2:forms.lookup ("try":Str)=some (["body","name","name","body","body"]:List Str):=∅;cases e.symm.trans e2;exact ⟨JW (t:= .str x) (sh:="name") (hs (.str x,"name") (by simp)) ∅,JW (t:= .str y) (sh:="name") (hs (.str y,"name") (by simp)) ∅⟩
    obtain ⟨i1,l1⟩:=v8 (f:=wP n) (p:="try") ∅ (row ra);obtain ⟨i2,l2⟩:=v8 (f:=wP n) (p:=y) hx.2.1 (row rb);obtain ⟨i3,l3⟩:=v8 (f:=wP n) (p:=zE y (bws (wP n) bs)) l2 (row rc);have hl:((("try":Str).length:Nat):Int)=3:=∅;rw [wP_try,jo xn,jA,zc,J1 l1 hx.1.2,J1 hx.1.1 hx.2.2,zc,zc,jc,hl];omega
   | @while_ t as kt ra=>
    have i1:=IT t kt;obtain ⟨i2,l2⟩:=v8 (f:=wP n) (p:=zE "while" (wP n t)) (jQ (zr kt)) (row ra);have hl:((("while":Str).length:Nat):Int)=5:=∅;rw [wP_while,jo xn,jA,zc,zc,jc,hl,JR (zr kt) ∅];omega
   | @if_ t as bs kt ra rb=>
    have i1:=IT t kt;obtain ⟨i2,l2⟩:=v8 (f:=wP n) (p:=zE "if" (wP n t)) (jQ (zr kt)) (row ra);obtain ⟨i3,l3⟩:=v8 (f:=wP n) (p:=zE (zE "if" (wP n t)) (bws (wP n) as)) l2 (row rb);have hl:((("if":Str).length:Nat):Int)=2:=∅;rw [wP_if,jo xn,jA,zc,zc,zc,jc,hl,JR (zr kt) ∅];omega
theorem main_cost {n:Nat} {ps as:List Aa} (nm:Nams ps) (ra:Row n as):wsum (fws (wP n) "main" ps as)≤3*((tx (fws (wP n) "main" ps as)).length:Int):=by
 have z:(("main":Str)≠"("∧("main":Str)≠")")∧3≤((("main":Str).length:Nat):Int):=∅;obtain ⟨r,e,c⟩:=qa1 (f:=wP n) z.1 z.2 nm.2 fun x hx=>⟨zr (ra.kid x hx),by have:=(qie n).2 x (ra.kid x hx);omega⟩
 rw [e,qii];have hl:((("(":Str).length:Nat):Int)=1:=∅;rw [hl];omega
end Sho
namespace Mine
open PySem L2
def top (i:Nat):Stmt:=PySem.Challenge.pw_waitloom_k05_whole_shown_and_read.main.body.getD i (.Pass ⟨0,0,0,0⟩)
abbrev v0:Stmt:=top 16
theorem Qk:FnScope ["thing"] ["thing"] (qj v0):=⟨rfl,rfl,rfl,∅,rfl,∅,∅⟩
abbrev vH:Stmt:=top 17
theorem Xg:FnScope ["thing"] ["thing"] (qj vH):=⟨rfl,rfl,rfl,∅,rfl,∅,∅⟩
abbrev WS:Stmt:=top 18
theorem qbr:FnScope ["thing","most"] ["thing","most"] (qj WS):=⟨rfl,rfl,rfl,∅,rfl,∅,∅⟩
abbrev JH:Stmt:=top 19
theorem Xi:FnScope ["thing"] ["thing"] (qj JH):=⟨rfl,rfl,rfl,∅,rfl,∅,∅⟩
abbrev vI:Stmt:=top 20
theorem Xh:FnScope ["thing","shape"] ["thing","shape"] (qj vI):=⟨rfl,rfl,rfl,∅,rfl,∅,∅⟩
abbrev vc:Stmt:=top 21
theorem vE:FnScope ["thing","shape","hands","head","shapes"] ["thing","shape","hands"] (qj vc):=⟨rfl,rfl,rfl,∅,rfl,∅,∅⟩
abbrev zG:Stmt:=top 22
theorem zw:FnScope ["part","found","thing","shape"] ["part"] (qj zG):=⟨rfl,rfl,rfl,∅,rfl,∅,∅⟩
abbrev Jz:Stmt:=top 23
theorem wU:FnScope ["part","hands"] ["part","hands"] (qj Jz):=⟨rfl,rfl,rfl,∅,rfl,∅,∅⟩
abbrev Jr:Stmt:=top 24
theorem qS:FnScope ["thing","level","depth","size","below","part","shape","hands","within"] ["thing"] (qj Jr):=⟨rfl,rfl,rfl,∅,rfl,∅,∅⟩
abbrev Jv:Stmt:=top 25
theorem wR:FnScope ["thing"] ["thing"] (qj Jv):=⟨rfl,rfl,rfl,∅,rfl,∅,∅⟩
abbrev Jy:Stmt:=top 29
theorem wS:FnScope ["sign"] ["sign"] (qj Jy):=⟨rfl,rfl,rfl,∅,rfl,∅,∅⟩
abbrev vZ:Stmt:=top 30
theorem Qj:FnScope ["thing"] ["thing"] (qj vZ):=⟨rfl,rfl,rfl,∅,rfl,∅,∅⟩
abbrev Vl:Stmt:=top 31
theorem Zi:FnScope ["text"] ["text"] (qj Vl):=⟨rfl,rfl,rfl,∅,rfl,∅,∅⟩
abbrev WT:Stmt:=XD (top 37) 0
theorem qbs:FnScope ["self","shape"] ["self","shape"] (qj WT):=⟨rfl,rfl,rfl,∅,rfl,∅,∅⟩
abbrev Vo:Stmt:=XD (top 37) 1
theorem Zk:FnScope ["self"] ["self"] (qj Vo):=⟨rfl,rfl,rfl,∅,rfl,∅,∅⟩
abbrev Vp:Stmt:=XD (top 37) 2
theorem vF:FnScope ["self","head","first"] ["self"] (qj Vp):=⟨rfl,rfl,rfl,∅,rfl,∅,∅⟩
abbrev Ju:Stmt:=top 38
theorem Jh:FnScope ["head","place","shapes","last"] ["head","place"] (qj Ju):=⟨rfl,rfl,rfl,∅,rfl,∅,∅⟩
abbrev V9:Stmt:=top 39
theorem Ql:FnScope ["word","shape"] ["word","shape"] (qj V9):=⟨rfl,rfl,rfl,∅,rfl,∅,∅⟩
abbrev vb:Stmt:=top 40
theorem Vg:FnScope ["word","figures"] ["word"] (qj vb):=⟨rfl,rfl,rfl,∅,rfl,∅,∅⟩
abbrev V8:Stmt:=top 41
theorem Qi:FnScope ["word"] ["word"] (qj V8):=⟨rfl,rfl,rfl,∅,rfl,∅,∅⟩
abbrev Vm:Stmt:=top 42
theorem wC:FnScope ["word","opening","wanted"] ["word","opening"] (qj Vm):=⟨rfl,rfl,rfl,∅,rfl,∅,∅⟩
abbrev vG:Stmt:=top 43
theorem J8:FnScope ["openings","word","innermost","wanted"] ["openings","word"] (qj vG):=⟨rfl,rfl,rfl,∅,rfl,∅,∅⟩
abbrev Qm:Stmt:=top 44
theorem Wl:FnScope ["text","openings","word","found"] ["text"] (qj Qm):=⟨rfl,rfl,rfl,∅,rfl,∅,∅⟩
abbrev j6:Stmt:=top 46
theorem WP:FnScope ["thing","shape"] ["thing","shape"] (qj j6):=⟨rfl,rfl,rfl,∅,rfl,∅,∅⟩
abbrev zT:Stmt:=top 47
theorem V7:FnScope ["things","shape"] ["things","shape"] (qj zT):=⟨rfl,rfl,rfl,∅,rfl,∅,∅⟩
abbrev Jp:Stmt:=top 48
theorem z9:FnScope ["part","head","words","shapes","thing","shape"] ["part"] (qj Jp):=⟨rfl,rfl,rfl,∅,rfl,∅,∅⟩
abbrev Xj:Stmt:=top 49
theorem qdq:FnScope ["program"] ["program"] (qj Xj):=⟨rfl,rfl,rfl,∅,rfl,∅,∅⟩
abbrev JN:Stmt:=top 51
theorem WQ:FnScope ["_law_script","_law_k"] ["_law_script","_law_k"] (qj JN):=⟨rfl,rfl,rfl,∅,rfl,∅,∅⟩
abbrev va:Stmt:=top 52
theorem jE:FnScope ["_law_state","_law_k","_law_cell"] ["_law_state"] (qj va):=⟨rfl,rfl,rfl,∅,rfl,∅,∅⟩
abbrev Jb:Stmt:=top 53
theorem jq:FnScope ["_law_cell","_law_many","_law_letters","_law_size","_law_word","_law_made","_law_k"] ["_law_cell","_law_many"] (qj Jb):=⟨rfl,rfl,rfl,∅,rfl,∅,∅⟩
abbrev J9:Stmt:=top 54
theorem Vf:FnScope ["_law_more","_law_far"] ["_law_more"] (qj J9):=⟨rfl,rfl,rfl,∅,rfl,∅,∅⟩
abbrev Jw:Stmt:=top 55
theorem zM:FnScope ["_law_state","_law_deep","_law_number_here","_law_kind","_law_more","_law_names_here","_law_params","_law_maker"] ["_law_state","_law_deep"] (qj Jw):=⟨rfl,rfl,rfl,∅,rfl,∅,∅⟩
abbrev Jx:Stmt:=top 56
theorem Zj:FnScope ["_law_state","_law_deep","_law_may_hand"] ["_law_state","_law_deep","_law_may_hand"] (qj Jx):=⟨rfl,rfl,rfl,∅,rfl,∅,∅⟩
abbrev zU:Stmt:=top 57
theorem qV:FnScope ["_law_state","_law_deep","_law_may_hand","_law_number_here","_law_kind","_law_name","_law_word","_law_test","_law_bodies_here"] ["_law_state","_law_deep","_law_may_hand"] (qj zU):=⟨rfl,rfl,rfl,∅,rfl,∅,∅⟩
abbrev JM:Stmt:=top 58
theorem jK:FnScope ["_law_script","_law_most","_law_names_here","_law_state","_law_body_here"] ["_law_script","_law_most"] (qj JM):=⟨rfl,rfl,rfl,∅,rfl,∅,∅⟩
abbrev Jq:Stmt:=top 59
theorem j5:FnScope ["_law_body_here","_law_found","_law_one"] ["_law_body_here"] (qj Jq):=⟨rfl,rfl,rfl,∅,rfl,∅,∅⟩
abbrev zx:Stmt:=top 60
theorem vt:FnScope ["_law_part"] ["_law_part"] (qj zx):=⟨rfl,rfl,rfl,∅,rfl,∅,∅⟩
abbrev jr:Stmt:=top 61
theorem jg:FnScope ["_law_term_here","_law_found","_law_one"] ["_law_term_here"] (qj jr):=⟨rfl,rfl,rfl,∅,rfl,∅,∅⟩
abbrev JG:Stmt:=top 62
theorem Jo:FnScope ["_law_one","_law_word","_law_found"] ["_law_one"] (qj JG):=⟨rfl,rfl,rfl,∅,rfl,∅,∅⟩
abbrev Vn:Stmt:=top 63
theorem zL:FnScope ["_law_words_here","_law_state","_law_text_here","_law_k","_law_tight","_law_some"] ["_law_words_here","_law_state"] (qj Vn):=⟨rfl,rfl,rfl,∅,rfl,∅,∅⟩
abbrev jt:Stmt:=top 64
theorem zi:FnScope ["_law_cell","_law_letters","_law_names_here","_law_body_here","_law_program_here","_law_due"] ["_law_cell"] (qj jt):=⟨rfl,rfl,rfl,∅,rfl,∅,∅⟩
abbrev jW:Stmt:=top 65
theorem za:FnScope ["_law_cell","_law_inner","_law_turn","_law_some","_law_program_here","_law_due"] ["_law_cell"] (qj jW):=⟨rfl,rfl,rfl,∅,rfl,∅,∅⟩
abbrev WR:Stmt:=top 66
theorem Vk:FnScope ["_law_script","_law_program_here","_law_words_here","_law_due","_law_loose","_law_told","_law_text_here"] ["_law_script"] (qj WR):=⟨rfl,rfl,rfl,∅,rfl,∅,∅⟩
structure Ad where
 LoomError:Ac
 BadTree:Ac
 BadText:Ac
 Opening:Ac
structure Cs (K:Frag) (mg:Str→Option Ab) (ad:Ad):Prop where
 all_:mg "all"=none
 isinstance_:mg "isinstance"=none
 str_:mg "str"=none
 len_:mg "len"=none
 bool_:mg "bool"=none
 int_:mg "int"=none
 tuple_:mg "tuple"=none
 set_:mg "set"=none
 zip_:mg "zip"=none
 ord_:mg "ord"=none
 max_:mg "max"=none
 range_:mg "range"=none
 list_:mg "list"=none
 MOST_LETTERS:∃ u,mg "MOST_LETTERS"=some u∧qL (.int 8) u
 GREATEST_NUMBER:∃ u,mg "GREATEST_NUMBER"=some u∧qL (.int 1000000000000) u
 MOST_NAMES:∃ u,mg "MOST_NAMES"=some u∧qL (.int 4) u
 MOST_TERMS:∃ u,mg "MOST_TERMS"=some u∧qL (.int 4) u
 MOST_STATEMENTS:∃ u,mg "MOST_STATEMENTS"=some u∧qL (.int 12) u
 MOST_DEPTH:∃ u,mg "MOST_DEPTH"=some u∧qL (.int 20) u
 MOST_PARTS:∃ u,mg "MOST_PARTS"=some u∧qL (.int 300) u
 PERCENT:∃ u,mg "PERCENT"=some u∧qL (.int 37) u
 MOST_SIGNS:∃ u,mg "MOST_SIGNS"=some u∧qL (.int 6000) u
 MOST_FIGURES:∃ u,mg "MOST_FIGURES"=some u∧qL (.int 13) u
 m_LoomError:mg "LoomError"=some (.ref ad.LoomError)
 m_BadTree:mg "BadTree"=some (.ref ad.BadTree)
 m_BadText:mg "BadText"=some (.ref ad.BadText)
 m_Opening:mg "Opening"=some (.ref ad.Opening)
 o_BadText:qj5 K ad.BadText
 ns_MEMBERS:∃ a,mg "MEMBERS"=some (.ref a)∧(a==sysModules)=false
 e1:PySem.W.exmOne K (.ref ad.BadText) (.ref ad.BadText)=some true
 cl:Cls K ad.Opening
 aS:PySem.W.findIn K (.ref ad.Opening) "shape"=some none
 aT:PySem.W.findIn K (.ref ad.Opening) "things"=some none
 mkC:PySem.W.makesIn K ad.Opening=true
 kc:PySem.W.keepIn K (.ref ad.Opening)=true
structure Tb (P:Program) (w:World) (K:Frag) (mg:Str→Option Ab):Prop where
 SIGNS:∃ a,mg "SIGNS"=some (.ref a)∧∀ H:Hp,SqT K H a (Tre.signs.map V.str)
 FORMS:KTabT P w K mg "FORMS" Tre.forms
 HEADS:KTabT P w K mg "HEADS" Tre.heads
 MEMBERS:KTabS P w K mg "MEMBERS" Tre.members
inductive spD (K:Frag) (f:Aa→Bool) (vs:List V) (H:Hp) (Q:VK) (E':XK):Prop
 | mk:∀ x d,(vs=[x])→(Rep K H x d)→(Tre.fit d=true)→(∀ H',qy H H'→Q (.bl (f d)) H')→spD K f vs H Q E'
theorem qh {H:Hp} {p:Ac} (h:H p=none) (o:HO):qy H (upd H p o):=fun b u q=>by rw [qu (qC q h)];exact q
theorem qk9 (c:Nat):(!decide (([c]:List Nat)<[97]))=decide (97≤c):=by
 rw [B5];simp [List.cons_lt_cons_iff]
theorem le_z (c:Nat):(!decide (([122]:List Nat)<[c]))=decide (c≤122):=by
 rw [B5];simp [List.cons_lt_cons_iff]
theorem qhe {n:Nat} (h:n≤1000000):n≤Af:=Aw h O0
section
variable {P:Program} {w:World} {K:Frag} {mg:Str→Option Ab} {base:Heap} {f:Ac} {fd:FuncData} {ad:Ad}
theorem Qx (F:Fun K "is_name" "is_name" v0 f fd) (c:Cs K mg ad):FnOk P w K mg base CX0 1 f fd ["thing"] (spD K Tre.qY):=by
 refine F.ok Qk (fun vs H Q E h=>?_) (fun cdv A outer s H vs Q E hr h=>?_)
 ·obtain ⟨x,d,rfl,_⟩:=h;rfl
 obtain ⟨x,d,rfl,hk,ft,q⟩:=h;refine ⟨_,(qc (qD (PW.pt (Jc (jd (zt (qz (vi (K:=K) rfl) (by rfl) c.isinstance_ zg (qa (pv 0) (qa (VL c.str_ vU) qb))))) (jL (jd (qd2 W4 W4 qd (qz (zN (K:=K) rfl) (by rfl) c.len_ ze (qa (pv 0) qb)) (W1 c.MOST_LETTERS)))))) (qf (qr zW)) qt)
   (qf (qr (qz (qa4 (K:=K) rfl rfl) (by rfl) c.all_ XL (qa (jB (sc:=qj v0) (NX:=["thing"]) (N:=["letter"]) (js:=[none]) (WY (K:=K) rfl (pv 0)) (fun _ _ _ _ _=>(zy (i:=0) (show (["letter"]:List Str).Nodup from ∅) rfl (Or.inl rfl))) (fun _ _ _ _ _=>jN) (fun _ _ _ _ _=>(W2 v1 v1 qg (pv 0) qg)) (zX rfl) ⟨∅,rfl,∅,∅,rfl,∅⟩) qb))))),?_⟩
 refine ⟨_,rfl,x,d,"str",rfl,hk,O0,?_⟩;cases hk with
 | str x=>
  refine ⟨_,rfl,w4 ?_⟩;have hx:x.length≤Af:=qhe (by simpa [Tre.fit] using ft)
  refine ⟨_,rfl,_,_,rfl,⟨hx,rfl⟩,_,_,rfl,rfl,_,rfl,?_⟩;have hl:x.length=x.cps.toList.length:=by simp [Str.length]
  refine w6 (fun c1=>?_) (fun c1=>?_)
  ·have c1':(1:Int)≤(x.length:Int):=A3 c1;refine ⟨_,_,rfl,rfl,_,rfl,?_⟩;refine w6 (fun c2=>?_) (fun c2=>?_)
   ·have c2':¬ ((x.length:Int)≤8):=by simpa using c2
    have e:Tre.qY (.str x)=false:=by
     simp only [Tre.qY,Tre.qG];rw [Ar (show ¬ x.length≤8 from ⋯)];simp
    have q':=q H (qy.refl _);rw [e] at q';exact q'
   ·have c2':(x.length:Int)≤8:=by simpa using c2
    have hsz:x.cps.size=x.cps.toList.length:=by simp
    refine ⟨_,rfl,.inr (.inr ⟨x,rfl,ji x.cps.size (fun i ys H'=>H'=H∧ys=(x.cps.toList.take i).map fun c=>V.bl (decide (97≤c)&&decide (c≤122))) ⟨rfl,rfl⟩ (fun i ys H' h=>?_) (by rw [hsz,← hl];exact hx) (fun i ys H' hi h=>?_) (fun ys H' h=>?_)⟩)⟩
    ·obtain ⟨_,rfl⟩:=h;rw [Ah];exact Bz _ _
    ·obtain ⟨rfl,rfl⟩:=h;refine ⟨hi,fun v H2 hy=>?_⟩;obtain ⟨rfl,cc,hcc,rfl⟩:=hy;have step:(x.cps.toList.take (i+1)).map (fun c=>V.bl (decide (97≤c)&&decide (c≤122)))=(x.cps.toList.take i).map (fun c=>V.bl (decide (97≤c)&&decide (c≤122)))++[V.bl (decide (97≤cc)&&decide (cc≤122))]:=by
      have hcc':x.cps.toList[i]?=some cc:=by simpa using hcc
      rw [Bw,hcc',A1];rfl
     refine ⟨_,rfl,_,_,rfl,rfl,_,rfl,?_⟩
     by_cases ha:97≤cc
     ·refine zp ((qk9 cc).trans (An ha)) ⟨_,_,rfl,rfl,rfl,?_⟩;rw [step,An ha,B0];exact congrArg (fun b=>_++[V.bl b]) (le_z cc)
     ·refine zh ((qk9 cc).trans (Ar ha)) ⟨rfl,?_⟩;rw [step,Ar ha,B3]
    ·obtain ⟨rfl,rfl⟩:=h;refine ⟨Ax _,fun D hD=>⟨D,x.cps.toList.map fun c=>decide (97≤c)&&decide (c≤122),rfl,SqL.of (by rw [upd_same,hsz,Cb,Bv];rfl),?_⟩⟩
     have e:Tre.qY (.str x)=(x.cps.toList.map fun c=>decide (97≤c)&&decide (c≤122)).all id:=by
      simp only [Tre.qY,Tre.qG];rw [An (show 1≤x.length from ⋯),An (show x.length≤8 from ⋯),Dm];rfl
     rw [← e];exact q _ (qh hD _)
  ·have c1':¬ (1:Int)≤(x.length:Int):=of_decide_eq_false (Bs.mpr c1);refine ⟨_,rfl,vv ?_⟩;have e:Tre.qY (.str x)=false:=by
    simp only [Tre.qY,Tre.qG];rw [Ar (show ¬ 1≤x.length from ⋯)];simp
   have q':=q H (qy.refl _);rw [e] at q';exact q'
 | _=>exact ⟨_,rfl,vv (vv (q H (qy.refl _)))⟩
theorem Xv (F:Fun K "is_number" "is_number" vH f fd) (c:Cs K mg ad):FnOk P w K mg base CX0 1 f fd ["thing"] (spD K Tre.zZ):=by
 refine F.ok Xg (fun vs H Q E h=>?_) (fun cdv A outer s H vs Q E hr h=>?_)
 ·obtain ⟨x,d,rfl,_⟩:=h;rfl
 obtain ⟨x,d,rfl,hk,ft,q⟩:=h;refine ⟨_,(qc (qD (PW.pt (Jc (jd (zt (qz (vi (K:=K) rfl) (by rfl) c.isinstance_ zg (qa (pv 0) (qa (VL c.int_ ww) qb))))) (jL (zt (qz (vi (K:=K) rfl) (by rfl) c.isinstance_ zg (qa (pv 0) (qa (VL c.bool_ qhs) qb))))))) (qf (qr zW)) qt)
   (qf (qr (W2 W4 W4 (qag Y9 (W1 c.GREATEST_NUMBER)) (pv 0) (W1 c.GREATEST_NUMBER))))),?_⟩
 have q0:=q H (qy.refl _);refine ⟨_,rfl,x,d,"int",rfl,hk,O0,?_⟩;have hk2:=hk;cases hk with
 | bl b=>exact ⟨_,rfl,_,rfl,_,_,"bool",rfl,hk2,O0,_,rfl,q0⟩
 | int i=>
  refine ⟨_,rfl,_,rfl,_,_,"bool",rfl,hk2,O0,_,rfl,?_⟩;refine ⟨_,rfl,_,rfl,_,_,rfl,rfl,_,rfl,?_⟩
  by_cases h:(-1000000000000:Int)≤i
  ·refine zp (An h) ⟨_,_,rfl,rfl,?_⟩;simp only [Tre.zZ,Tre.jP,An h,B0] at q0;exact q0
  ·refine zh (Ar h) ?_;simp only [Tre.zZ,Tre.jP,Ar h,B3] at q0;exact q0
 | _=>exact ⟨_,rfl,q0⟩
inductive spRow (K:Frag) (vs:List V) (H:Hp) (Q:VK) (E':XK):Prop
 | mk:∀ x d m,(vs=[x,.int (m:Nat)])→(Rep K H x d)→(Q (.bl (Tre.JK d m)) H)→spRow K vs H Q E'
theorem qby (F:Fun K "is_row" "is_row" WS f fd) (c:Cs K mg ad):FnOk P w K mg base CX0 1 f fd ["thing","most"] (spRow K):=by
 refine F.ok qbr (fun vs H Q E h=>?_) (fun cdv A outer s H vs Q E hr h=>?_)
 ·obtain ⟨x,d,m,rfl,_⟩:=h;rfl
 obtain ⟨x,d,m,rfl,hk,q⟩:=h;refine ⟨_,(qf (qr (wc (qz (vi (K:=K) rfl) (by rfl) c.isinstance_ zg (qa (pv 0) (qa (VL c.tuple_ zK) qb))) (JA (zf W4 (qz (zN (K:=K) rfl) (by rfl) c.len_ ze (qa (pv 0) qb)) (pv 1) (qw _)))))),?_⟩
 refine ⟨_,rfl,x,d,"tuple",rfl,hk,O0,?_⟩;cases hk with
 | @tup a xs ds hq hs=>
  refine ⟨_,rfl,?_⟩;refine vv ⟨_,rfl,_,_,rfl,.inr ⟨_,hq,rfl⟩,_,rfl,_,_,rfl,rfl,?_⟩;have e:Tre.JK (.tuple ds) m=decide (((xs.length:Nat):Int)≤(m:Int)):=by
   simp only [Tre.JK];rw [hs.length];exact decide_eq_decide.mpr ⋯
  rw [e] at q;exact q
 | _=>exact ⟨_,rfl,w4 q⟩
theorem qci {a:Ac} {js:List (Option Nat)} {k:Nat} {te:TE} {σ:St} {H:Hp} {Q:VK} {xs:List V} {ds:List Aa} (hq:SqT K H a xs) (hr:Reps K H xs ds) (fv:Aa→V) (hz:ds.length≤Af)
  (step:∀ (x:V) (d:Aa) (H':Hp) (R:VK),qy H H'→d∈ds→Rep K H' x d→(∀ H5,qy H' H5→R (fv d) H5)→te ((zD js σ).set k (some x)) H' R)
  (fin:∀ (H':Hp) (D:Ac),qy H H'→H' D=none→Q (.ref D) (upd H' D (.lst (ds.map fv)))):qa7 (Itt K a) js (qE k) Zb te σ H Q:=by
 have hlen:=hr.length;refine ji ds.length (fun i ys H'=>qy H H'∧ys=(ds.take i).map fv) ⟨qy.refl _,rfl⟩ (fun i ys H' h=>?_) hz (fun i ys H' hi h=>?_) (fun ys H' h=>?_)
 ·rw [h.2,Ah];exact Bz _ _
 ·obtain ⟨g,rfl⟩:=h;have hx:xs[i]?=some xs[i]:=Br ⋯;refine ⟨⟨xs,xs[i],g.sqT hq,hx⟩,fun v H2 hy=>?_⟩;obtain ⟨rfl,hv⟩:=hy;have e:=(hx.symm.trans (hv xs (g.sqT hq)));cases e;obtain ⟨d,hd,rd⟩:=hr.get hx;show te ((zD js σ).set k (some xs[i])) H2 (fun y H5=>qy H H5∧(ds.take i).map fv++[y]=(ds.take (i+1)).map fv);refine step _ d _ _ g (Bx hd) (rd.same g) fun H5 g5=>⟨g.trans g5,?_⟩;rw [Bw,hd,A1];rfl
 ·obtain ⟨g,rfl⟩:=h;refine ⟨⟨xs,g.sqT hq,⋯⟩,fun D hD=>?_⟩;rw [Cb];exact fin H' D g hD
theorem qla {c:Bool} {A B:Prop} (e:c=true) (h:A):if c=true then A else B:=zp e h
theorem YD {H:Hp}:∀ {xs:List V} {ds:List Aa},Reps K H xs ds→ds.all Tre.qY=true→xs=(ds.map Tre.txt).map V.str
 | _,_,.nil,_=>rfl
 | _,_,.cons h t,e=>by
  rw [D0,Al] at e;cases h with
  | str x=>rw [As,As,← YD t e.2];rfl
  | _=>exact absurd e.1 Ai
theorem Xx (F:Fun K "are_names" "are_names" JH f fd) (c:Cs K mg ad) (d_is_name:Def P w K mg base 1 "is_name" ["thing"] (spD K Tre.qY)) (d_is_row:Def P w K mg base 1 "is_row" ["thing","most"] (spRow K)):FnOk P w K mg base CX0 2 f fd ["thing"] (spD K Tre.areNames):=by
 refine F.ok Xi (fun vs H Q E h=>?_) (fun cdv A outer s H vs Q E hr h=>?_)
 ·obtain ⟨x,d,rfl,_⟩:=h;rfl
 obtain ⟨x,d,rfl,hk,ft,q⟩:=h;refine ⟨_,(qc (qD (PW.pt (Jc (jd (zt (pdf d_is_row (qa (pv 0) (qa (W1 c.MOST_NAMES) qb))))) (jL (jd (zt (qz (qa4 (K:=K) rfl rfl) (by rfl) c.all_ XL (qa (jB (sc:=qj JH) (NX:=["thing"]) (N:=["one"]) (js:=[none]) (WY (K:=K) rfl (pv 0)) (fun _ _ _ _ _=>(zy (i:=0) (show (["one"]:List Str).Nodup from ∅) rfl (Or.inl rfl))) (fun _ _ _ _ _=>jN) (fun _ _ _ _ _=>(pdf d_is_name (qa (pv 0) qb))) (zX rfl) ⟨∅,rfl,∅,∅,rfl,∅⟩) qb))))))) (qf (qr zW)) qt)
   (qf (qr (zf qT (qz qcn (by rfl) c.len_ ze (qa (qM (qcm (K:=K) rfl rfl) (by rfl) c.set_ qjx (qa (pv 0) qb)) qb)) (qz (zN (K:=K) rfl) (by rfl) c.len_ ze (qa (pv 0) qb)) (qw _))))),?_⟩
 have hk2:=hk;refine ⟨_,rfl,_,_,4,rfl,hk2,_,rfl,?_⟩;cases hk with
 | @tup a xs ds hq hs=>
  by_cases h4:ds.length≤4
  ·refine zh (show (!Tre.JK (.tuple ds) 4)=false by simp [Tre.JK,h4]) ?_
   refine ⟨_,rfl,.inr (.inl ⟨a,rfl,⟨xs,hq⟩,qci hq hs (fun d=>V.bl (Tre.qY d)) (Aw h4 O0) (fun x d H' R g hd rd hR=>?_) (fun H' D g hD=>?_)⟩)⟩
   ·exact ⟨_,rfl,_,_,rfl,rd,Tre.JC (by simpa [Tre.fit] using ft) d hd,fun H5 g5=>hR H5 g5⟩
   ·refine ⟨D,ds.map Tre.qY,rfl,SqL.of (by rw [upd_same,Bv];rfl),_,rfl,?_⟩
    have g2:qy H (upd H' D (.lst (ds.map fun d=>V.bl (Tre.qY d)))):=g.trans (qh hD _);have g3:=g2.sqT hq;generalize upd H' D (.lst (ds.map fun d=>V.bl (Tre.qY d)))=H2 at g2 g3 ⊢
    by_cases ha:ds.all Tre.qY=true
    ·refine zh (show (!((ds.map Tre.qY).all id))=false by rw [Dm];simpa using ha) ?_
     obtain rfl:=YD hs ha;have hl:(ds.map Tre.txt).length≤100:=by rw [Ah];omega
     refine ⟨_,rfl,a,ds.map Tre.txt,rfl,g3,hl,fun p hp=>⟨p,ds.map Tre.txt,rfl,upd_same,hl,_,rfl,_,_,rfl,.inr ⟨_,(qh hp _).sqT g3,rfl⟩,rfl,?_⟩⟩;have q':=q _ (g2.trans (qh hp (qgj P w p (ds.map Tre.txt))));have e:Tre.areNames (.tuple ds)=decide (V.int (((vD (ds.map Tre.txt)).length:Nat):Int)=V.int ((((ds.map Tre.txt).map V.str).length:Nat):Int)):=by
      simp only [Tre.areNames,ha,An h4,B0];rw [decide_eq_decide];refine (qc1 _).symm.trans ⟨fun z=>by rw [z,Ah (f:=V.str)],fun z=>?_⟩
      have z':=V.int.inj z;rw [Ah (f:=V.str)] at z';omega
     rw [e] at q';exact q'
    ·refine zp (show (!((ds.map Tre.qY).all id))=true by rw [Dm];simpa using ha) ?_
     have q':=q _ g2;have e:Tre.areNames (.tuple ds)=false:=by simp [Tre.areNames,ha]
     rw [e] at q';exact q'
  ·refine qla (show (!Tre.JK (.tuple ds) 4)=true by simp [Tre.JK,h4]) ?_
   have q':=q H (qy.refl _);have e:Tre.areNames (.tuple ds)=false:=by simp [Tre.areNames,h4]
   rw [e] at q';exact vv q'
 | _=>exact vv (vv (q H (qy.refl _)))
inductive spShape (K:Frag) (vs:List V) (H:Hp) (Q:VK) (E':XK):Prop
 | mk:∀ x d sh,(vs=[x,.str sh])→(Rep K H x d)→(Tre.fit d=true)→(∀ H',qy H H'→Q (.bl (Tre.qi d sh)) H')→spShape K vs H Q E'
theorem qkd (a b:Str):decide (V.str a=V.str b)=(a==b):=by
 rw [B5,Bk,Az];exact ⟨fun h=>V.str.inj h,fun h=>h▸rfl⟩
theorem Xw (F:Fun K "has_shape" "has_shape" vI f fd) (c:Cs K mg ad) (T:Tb P w K mg) (d_is_name:Def P w K mg base 1 "is_name" ["thing"] (spD K Tre.qY)) (d_is_number:Def P w K mg base 1 "is_number" ["thing"] (spD K Tre.zZ)) (d_is_row:Def P w K mg base 1 "is_row" ["thing","most"] (spRow K)) (d_are_names:Def P w K mg base 2 "are_names" ["thing"] (spD K Tre.areNames)):FnOk P w K mg base CX0 3 f fd ["thing","shape"] (spShape K):=by
 refine F.ok Xh (fun vs H Q E h=>?_) (fun cdv A outer s H vs Q E hr h=>?_)
 ·obtain ⟨x,d,sh,rfl,_⟩:=h;rfl
 obtain ⟨x,d,sh,rfl,hk,ft,q⟩:=h;refine ⟨_,(qc (qD (qq qT (pv 1) qg (qw _)) (qf (qr (pdf d_is_number (qa (pv 0) qb)))) qt)
   (qc (qD (qq qT (pv 1) qg (qw _)) (qf (qr (pdf d_is_name (qa (pv 0) qb)))) qt)
   (qc (qD (qq qT (pv 1) qg (qw _)) (qf (qr (wc (pdf d_is_name (qa (pv 0) qb)) (JA (zf VO (pv 0) qg (qw _)))))) qt)
   (qc (qD (qq qT (pv 1) qg (qw _)) (qf (qr (wc (qz (vi (K:=K) rfl) (by rfl) c.isinstance_ zg (qa (pv 0) (qa (VL c.str_ vU) qb))) (JA (zf (vR (K:=K) rfl) (pv 0) (VM T.SIGNS) rfl))))) qt)
   (qc (qD (qq qT (pv 1) qg (qw _)) (qf (qr (pdf d_are_names (qa (pv 0) qb)))) qt)
   (qc (qD (qq qT (pv 1) qg (qw _)) (qf (qr (pdf d_is_row (qa (pv 0) (qa (W1 c.MOST_TERMS) qb))))) qt)
   (qc (qD (qq qT (pv 1) qg (qw _)) (qf (qr (pdf d_is_row (qa (pv 0) (qa (W1 c.MOST_STATEMENTS) qb))))) qt)
   (qf (qr zW))))))))),?_⟩
 by_cases e0:sh="number"
 ·subst e0;simp only [Tre.Jn] at q;refine ⟨_,rfl,rfl,_,rfl,zp (show decide _=true from An rfl) ?_⟩;exact ⟨_,rfl,_,_,rfl,hk,ft,fun H' g=>q H' g⟩
 refine ⟨_,rfl,rfl,_,rfl,zh (show decide _=false from Ar fun z=>e0 (V.str.inj z)) ?_⟩
 by_cases e1:sh="name"
 ·subst e1;simp only [Tre.jl] at q;refine ⟨_,rfl,rfl,_,rfl,zp (show decide _=true from An rfl) ?_⟩;exact ⟨_,rfl,_,_,rfl,hk,ft,fun H' g=>q H' g⟩
 refine ⟨_,rfl,rfl,_,rfl,zh (show decide _=false from Ar fun z=>e1 (V.str.inj z)) ?_⟩
 by_cases e2:sh="word"
 ·subst e2;simp only [Tre.J4] at q;refine ⟨_,rfl,rfl,_,rfl,zp (show decide _=true from An rfl) ?_⟩;refine ⟨_,rfl,_,_,rfl,hk,ft,fun H' g=>⟨_,rfl,?_⟩⟩;have q':=q H' g;cases hk with
  | str x=>
   by_cases hn:Tre.qG x=true
   ·refine zp hn ⟨_,rfl,rfl,?_⟩;simp only [hn,B0] at q';show Q (.bl (!decide (V.str x=V.str "any"))) H';rw [qkd];exact q'
   ·have hn':=Bs.mpr hn;refine zh hn' ?_;simp only [hn',B3] at q';exact q'
  | _=>exact w4 q'
 refine ⟨_,rfl,rfl,_,rfl,zh (show decide _=false from Ar fun z=>e2 (V.str.inj z)) ?_⟩
 by_cases e3:sh="sign"
 ·subst e3;simp only [Tre.J5] at q;refine ⟨_,rfl,rfl,_,rfl,zp (show decide _=true from An rfl) ?_⟩;have q':=q H (qy.refl _);refine ⟨_,rfl,_,_,"str",rfl,hk,O0,_,rfl,?_⟩;cases hk with
  | str x=>
   refine vv ⟨_,rfl,fun a ha=>⟨a,_,rfl,.inr (ha H),rfl,rfl,?_⟩⟩;exact q'
  | _=>exact w4 q'
 refine ⟨_,rfl,rfl,_,rfl,zh (show decide _=false from Ar fun z=>e3 (V.str.inj z)) ?_⟩
 by_cases e4:sh="names"
 ·subst e4;simp only [Tre.Ja] at q;refine ⟨_,rfl,rfl,_,rfl,zp (show decide _=true from An rfl) ?_⟩;exact ⟨_,rfl,_,_,rfl,hk,ft,fun H' g=>q H' g⟩
 refine ⟨_,rfl,rfl,_,rfl,zh (show decide _=false from Ar fun z=>e4 (V.str.inj z)) ?_⟩
 by_cases e5:sh="terms"
 ·subst e5;simp only [Tre.j9] at q;refine ⟨_,rfl,rfl,_,rfl,zp (show decide _=true from An rfl) ?_⟩;exact ⟨_,rfl,_,_,4,rfl,hk,q H (qy.refl _)⟩
 refine ⟨_,rfl,rfl,_,rfl,zh (show decide _=false from Ar fun z=>e5 (V.str.inj z)) ?_⟩
 by_cases e6:sh="body"
 ·subst e6;simp only [Tre.jD] at q;refine ⟨_,rfl,rfl,_,rfl,zp (show decide _=true from An rfl) ?_⟩;exact ⟨_,rfl,_,_,12,rfl,hk,q H (qy.refl _)⟩
 refine ⟨_,rfl,rfl,_,rfl,zh (show decide _=false from Ar fun z=>e6 (V.str.inj z)) ?_⟩;have q':=q H (qy.refl _);rw [Tre.WO d (Bf.mpr e0) (Bf.mpr e1) (Bf.mpr e2) (Bf.mpr e3) (Bf.mpr e4) (Bf.mpr e5) (Bf.mpr e6)] at q';exact q'
theorem qfm (y:V) (ys:List V):jf (y::ys) (some 1) none=ys:=by
 unfold jf;have e:HT.sIx (y::ys).length 0 (some 1)=1:=by
  show HT.sIx (y::ys).length 0 (some ((1:Nat):Int))=1;rw [HT.sIx_nat];simp
 rw [e,HT.sIx_none];simp
theorem Wu (y:V) (ys:List V):¬ (HT.sIx (y::ys).length 0 (some 1)=0∧HT.sIx (y::ys).length (y::ys).length none=(y::ys).length):=by
 have e:HT.sIx (y::ys).length 0 (some 1)=1:=by
  show HT.sIx (y::ys).length 0 (some ((1:Nat):Int))=1;rw [HT.sIx_nat];simp
 rw [e];omega
theorem jb (l:List Str):(l.map V.str).all vS=true:=by
 rw [Dm];exact A4.mpr fun _ _=>rfl
theorem Ws (h:Str) (l:List Str):inV (.str h) (l.map V.str)=l.any fun y=>y==h:=by
 unfold inV;rw [List.any_map];rfl
theorem qcg {a b:Ac} {js:List (Option Nat)} {te:TE} {σ:St} {H:Hp} {Q:VK} {xs:List V} {ds:List Aa} {fs:List Str} (hq:SqT K H a xs) (hr:Reps K H xs ds) (hq2:SqT K H b (fs.map V.str)) (hl:ds.length=fs.length) (hz:ds.length≤Af) (fv:Aa→Str→V)
  (step:∀ (x:V) (d:Aa) (sh:Str) (H':Hp) (R:VK),qy H H'→(d,sh)∈ds.zip fs→Rep K H' x d→(∀ H5,qy H' H5→R (fv d sh) H5)→te (((zD js σ).set 0 (some x)).set 1 (some (.str sh))) H' R)
  (fin:∀ (H':Hp) (D:Ac),qy H H'→H' D=none→Q (.ref D) (upd H' D (.lst ((ds.zip fs).map fun p=>fv p.1 p.2)))):qa7 (Itz K a b) js (XI K 2 (Jk (qE 0) (Jk (qE 1) ZM))) Zb te σ H Q:=by
 have hlen:=hr.length;have hzip:(ds.zip fs).length=ds.length:=by rw [Dd];omega
 refine ji ds.length (fun i ys H'=>qy H H'∧ys=((ds.zip fs).take i).map fun p=>fv p.1 p.2) ⟨qy.refl _,rfl⟩ (fun i ys H' h=>?_) hz (fun i ys H' hi h=>?_) (fun ys H' h=>?_)
 ·rw [h.2,Ah];exact Bz _ _
 ·obtain ⟨g,rfl⟩:=h;have hx:xs[i]?=some xs[i]:=Br ⋯;have hf:fs[i]?=some fs[i]:=Br ⋯;have hy:(fs.map V.str)[i]?=some (.str fs[i]):=by rw [Bq,hf];rfl
  refine ⟨⟨xs,_,_,_,g.sqT hq,g.sqT hq2,hx,hy⟩,fun v H2 yl=>?_⟩;obtain ⟨p,x,y,hp,rfl,e1,e2,rfl⟩:=yl;have e3:=hx.symm.trans (e1 xs (g.sqT hq));cases e3;have e4:=hy.symm.trans (e2 _ (g.sqT hq2));cases e4;obtain ⟨d,hd,rd⟩:=hr.get hx;have g2:=g.trans (qh hp (.tup [xs[i],.str fs[i]]));have hm:(ds.zip fs)[i]?=some (d,fs[i]):=C6.mpr ⟨hd,hf⟩;refine ⟨p,_,rfl,SqT.of upd_same,rfl,_,_,rfl,_,_,rfl,rfl,?_⟩;show te (((zD js σ).set 0 (some xs[i])).set 1 (some (.str fs[i]))) _ (fun z H5=>qy H H5∧((ds.zip fs).take i).map (fun p=>fv p.1 p.2)++[z]=((ds.zip fs).take (i+1)).map fun p=>fv p.1 p.2);refine step _ d _ _ _ g2 (Bx hm) (rd.same g2) fun H5 g5=>⟨g2.trans g5,?_⟩;rw [Bw,hm,A1];rfl
 ·obtain ⟨g,rfl⟩:=h;refine ⟨⟨xs,_,g.sqT hq,g.sqT hq2,.inl ⋯⟩,fun D hD=>?_⟩;rw [← hzip,Cb];exact fin H' D g hD
inductive spForm (K:Frag) (vs:List V) (H:Hp) (Q:VK) (E':XK):Prop
 | mk:∀ x d sh hands,(vs=[x,.str sh,.bl hands])→(Rep K H x d)→(Tre.fit d=true)→((Tre.heads.lookup sh).isSome=true)→(∀ H',qy H H'→Q (.bl (Tre.qQ d sh hands)) H')→spForm K vs H Q E'
def X4 (K:Frag):TS:=zS (tCB (fun xs H Q=>∃ a bs,xs=[V.ref a]∧SqL K H a (List.map V.bl bs)∧Q (V.bl (bs.all id)) H) (qe (wB (qhk K (qe (tSl (Qn K) (qk 0) (WJ (tC (V.int 1))) VF) (qe (qk 4) qx))) [none,none] (XI K 2 (Jk (qE 0) (Jk (qE 1) ZM))) Zb (qI (spShape K) [] E0 (qe (qk 0) (qe (qk 1) qx)))) qx))
def X3 (K:Frag):TS:=qO (zO (qW (tOp rNe (tCB (fun xs H Q=>∃ x n,xs=[x]∧wz K x H n∧Q (V.int ↑n) H) (qe (qk 0) qx)) (tOp zk (tCB (fun xs H Q=>∃ x n,xs=[x]∧wz K x H n∧Q (V.int ↑n) H) (qe (qk 4) qx)) (tC (V.int 1))))) (zS (tC (V.bl false))) zn) (X4 K)
def X2 (K:Frag):TS:=qO (zF (Zc K Tre.forms (qk 3)) (qE 4)) (X3 K)
def X1 (K:Frag):TS:=qO (zO (qc9 (qW (tOp rEq (qk 3) (tC (V.str "hand")))) (Z9 (tB (qk 2)))) (zS (tC (V.bl false))) zn) (X2 K)
def X0 (K:Frag):TS:=qO (zO (qW (tOp (rIn K true) (qk 3) (Zc K Tre.heads (qk 1)))) (zS (tC (V.bl false))) zn) (X1 K)
def XZ (K:Frag):TS:=qO (zF (tOp (rIx K) (qk 0) (tC (V.int 0))) (qE 3)) (X0 K)
theorem Zx (F:Fun K "has_form" "has_form" vc f fd) (c:Cs K mg ad) (T:Tb P w K mg) (d_has_shape:Def P w K mg base 3 "has_shape" ["thing","shape"] (spShape K)):FnOk P w K mg base CX0 4 f fd ["thing","shape","hands"] (spForm K):=by
 refine F.ok vE (fun vs H Q E h=>?_) (fun cdv A outer s H vs Q E hr h=>?_)
 ·obtain ⟨x,d,sh,hands,rfl,_⟩:=h;rfl
 obtain ⟨x,d,sh,hands,rfl,hk,ft,hsh,q⟩:=h;refine ⟨_,(qc (qD (PW.pt (Jc (jd (zt (qz (vi (K:=K) rfl) (by rfl) c.isinstance_ zg (qa (pv 0) (qa (VL c.tuple_ zK) qb))))) (Jc (qq qT (qz (zN (K:=K) rfl) (by rfl) c.len_ ze (qa (pv 0) qb)) qd (qw _)) (jL (jd (zt (qz (vi (K:=K) rfl) (by rfl) c.isinstance_ zg (qa (pix K (pv 0) qd) (qa (VL c.str_ vU) qb))))))))) (qf (qr zW)) qt)
   (qc (pst 3 vE.nd (pix K (pv 0) qd))
   (qc (qD (qq (qek (K:=K) rfl) (pv 3) (JI (K:=K) rfl T.HEADS (pv 1) (fun _ _=>rfl)) rfl) (qf (qr zW)) qt)
   (qc (qD (PW.pt (Vq (qq qT (pv 3) qg (qw _)) (ve (jd (zt (pv 2)))))) (qf (qr zW)) qt)
   (qc (pst 4 vE.nd (JI (K:=K) rfl T.FORMS (pv 3) (fun _ _=>rfl)))
   (qc (qD (qq VO (qz (zN (K:=K) rfl) (by rfl) c.len_ ze (qa (pv 0) qb)) (qo qA (qz (zN (K:=K) rfl) (by rfl) c.len_ ze (qa (pv 4) qb)) qd) (qw _)) (qf (qr zW)) qt)
   (qf (qr (qz (qa4 (K:=K) rfl rfl) (by rfl) c.all_ XL (qa (jB (sc:=qj vc) (NX:=["thing","shape","hands","head","shapes"]) (N:=["one","wanted"]) (js:=[none,none]) (Qq (K:=K) rfl c.zip_ (qa (zV (wQ (K:=K) rfl) (pv 0) (ju qd) jM) (qa (pv 4) qb))) (fun _ _ _ _ _=>(Zr (K:=K) (n:=2) rfl rfl (jm (zy (i:=0) (show (["one","wanted"]:List Str).Nodup from ∅) rfl (Or.inl rfl)) (jm (zy (i:=1) (show (["one","wanted"]:List Str).Nodup from ∅) rfl (Or.inl rfl)) VJ)))) (fun _ _ _ _ _=>jN) (fun _ _ _ _ _=>(pdf d_has_shape (qa (pv 0) (qa (pv 1) qb)))) (qak rfl rfl) ⟨∅,rfl,∅,∅,rfl,∅⟩) qb)))))))))),?_⟩
 show qO (zO (tOr (Z9 (tB (tCB (fun xs H Q=>∃ x d T,xs=[x,V.ty T]∧Rep K H x d∧T∈["bool","int","str","list","tuple"]∧Q (V.bl (isi (tyD d) T)) H) (qe (qk 0) (qe (tC (V.ty "tuple")) qx))))) (tOr (qW (tOp rEq (tCB (fun xs H Q=>∃ x n,xs=[x]∧wz K x H n∧Q (V.int ↑n) H) (qe (qk 0) qx)) (tC (V.int 0)))) (Z9 (tB (tCB (fun xs H Q=>∃ x d T,xs=[x,V.ty T]∧Rep K H x d∧T∈["bool","int","str","list","tuple"]∧Q (V.bl (isi (tyD d) T)) H) (qe (tOp (rIx K) (qk 0) (tC (V.int 0))) (qe (tC (V.ty "str")) qx))))))) (zS (tC (V.bl false))) zn) (XZ K) _ _ _;have q0:=q H (qy.refl _);have hk2:=hk;refine ⟨_,rfl,_,_,"tuple",rfl,hk2,O0,_,rfl,?_⟩;cases hk with
 | @tup a xs ds hq hs=>
  refine w4 ⟨_,rfl,_,_,rfl,.inr ⟨_,hq,rfl⟩,rfl,_,rfl,?_⟩;cases hs with
  | nil=>exact vv (vv q0)
  | @cons y ys e es r rs=>
   refine zh (show decide _=false from Ar fun z=>by have:=V.int.inj z;rw [Aj] at this;omega) ?_
   have hy:atI (y::ys) 0=some y:=ql (j:=0) rfl;refine ⟨_,rfl,.inr (.inl ⟨_,_,0,_,rfl,rfl,hq,hy,_,_,"str",rfl,r,O0,_,rfl,?_⟩)⟩;cases r with
   | str h=>
    refine w4 ?_;refine ⟨_,rfl,.inr (.inl ⟨_,_,0,_,rfl,rfl,hq,hy,?_⟩)⟩;obtain ⟨l,hl⟩:=Cz.mp hsh;refine ⟨_,rfl,_,rfl,sh,l,rfl,hl,fun a2 ha2=>⟨a2,_,rfl,.inr (ha2 H),rfl,jb l,_,rfl,?_⟩⟩;have hin:(((Tre.heads.lookup sh).getD []).any fun y=>y==h)=l.any fun y=>y==h:=by rw [hl];rfl
    have q1:=q0;simp only [Tre.qQ,hin] at q1
    by_cases hm:(l.any fun y=>y==h)=true
    ·refine zh (show (!inV (.str h) (l.map V.str))=false by rw [Ws,hm];rfl) ?_
     rw [hm,B0] at q1;obtain ⟨_,_,_,fs,hfs,hf5⟩:=Tre.YL (hin.trans hm);refine ⟨_,rfl,rfl,_,rfl,?_⟩
     by_cases hb:(h=="hand"&&!hands)=true
     ·rw [Al,Az] at hb;obtain ⟨rfl,hb⟩:=hb;refine zp (show decide _=true from An rfl) ⟨_,rfl,_,rfl,zp hb ?_⟩;rw [hb] at q1;exact q1
     ·have hb':=Bs.mpr hb;have q2:∀ H',qy H H'→Q (.bl (Tre.zu es fs)) H':=fun H' g=>by
       have:=q H' g;simp only [Tre.qQ,hin,hm,hb',hfs,B0,Bool.not_false,Option.getD_some] at this;exact this
      refine w6 (fun c1=>⟨_,rfl,_,rfl,zh ?hd ?g1⟩) (fun _=>w4 ?g2)
      case hd=>
       have c1':h="hand":=V.str.inj (A3 c1);rw [c1'] at hb';simpa using hb'
      all_goals
       refine ⟨_,rfl,h,fs,rfl,hfs,fun a3 ha3=>?_⟩;refine ⟨_,rfl,_,_,rfl,.inr ⟨_,hq,rfl⟩,_,rfl,_,_,rfl,.inr ⟨_,ha3 H,rfl⟩,.inl ⟨_,_,rfl,rfl,rfl,_,rfl,?_⟩⟩;have hys:=rs.length
       by_cases hlen:es.length=fs.length
       ·refine zh (show (!decide _)=false by
         rw [Bool.not_eq_false',Bk,Ah,Aj,hys,hlen];rfl) ?_
        refine ⟨_,rfl,_,rfl,.inr (.inr ⟨a,_,rfl,hq,Wu _ _,fun p hp=>?_⟩)⟩;rw [qfm];have g1:=qh hp (.tup ys);refine ⟨_,rfl,p,a3,rfl,⟨ys,SqT.of upd_same⟩,⟨_,ha3 _⟩,qcg (SqT.of upd_same) (rs.same g1) (ha3 _) hlen (Aw ⋯ (show 5≤Af from O0)) (fun d sh=>V.bl (Tre.qi d sh)) (fun x d sh H' R g hd rd hR=>?_) (fun H' D g hD=>?_)⟩
        ·have ft':Tre.fit d=true:=by
          rw [Tre.fit,Tre.Jj,Al] at ft;exact Tre.JC ft.2 d (C0 hd).1
         exact ⟨_,rfl,_,rfl,_,_,_,rfl,rd,ft',fun H5 g5=>hR H5 g5⟩
        ·have q3:=q2 _ ((g1.trans g).trans (qh hD (.lst ((es.zip fs).map fun p=>V.bl (Tre.qi p.1 p.2)))));refine ⟨D,(es.zip fs).map fun p=>Tre.qi p.1 p.2,rfl,SqL.of (by rw [upd_same,Bv];rfl),?_⟩
         have e3:Tre.zu es fs=((es.zip fs).map fun p=>Tre.qi p.1 p.2).all id:=by
          unfold Tre.zu;rw [An hlen,B0,Dm];rfl
         rw [e3] at q3;exact q3
       ·refine zp (show (!decide _)=true by
         rw [Bool.not_eq_true',decide_eq_false_iff_not,Ah,Aj,hys];intro z;have:=V.int.inj z;omega) ?_
        have q3:=q2 H (qy.refl _);unfold Tre.zu at q3;rw [Ar hlen,B3] at q3;exact q3
    ·have hm':=Bs.mpr hm;refine zp (show (!inV (.str h) (l.map V.str))=true by rw [Ws,hm'];rfl) ?_
     rw [hm',B3,B3] at q1;exact q1
   | _=>exact vv q0
 | _=>exact vv (vv q0)
end
abbrev Lp (J:It) (g:TG) (tb:TS) (D:Ends) (σ:St) (H:Hp):Prop:=
 ∃ W:Nat→Nat→St→Hp→Prop,(∃ m,W 0 m σ H)∧∀ i m σ H,W i m σ H→
  (J.stop i H∧D.nx σ H)∨(J.go i H∧∃ N:St→Hp→Prop,(∀ σ' H',N σ' H'→∃ m',m'<m∧W (i+1) m' σ' H')∧∀ x H',J.yld i H x H'→g x σ H' fun σ2 H2=>tb {D with nx:=N,ct:=N,bk:=D.nx} σ2 H2)
theorem qe9 {J:It} {g:TG} {tb:TS} {D:Ends} {σ:St} {H:Hp} (n:Nat) (Pv:Nat→St→Hp→Prop) (h0:Pv 0 σ H)
  (hs:∀ i σ H,i<n→Pv i σ H→J.go i H∧∀ x H',J.yld i H x H'→g x σ H' fun σ2 H2=>tb {D with nx:=Pv (i+1),ct:=Pv (i+1),bk:=D.nx} σ2 H2) (hd:∀ σ H,Pv n σ H→J.stop n H∧D.nx σ H):
  Lp J g tb D σ H:=by
 refine ⟨fun i m σ H=>m=n - i∧i≤n∧Pv i σ H,⟨n,by simp,Bm _,h0⟩,fun i m σ H h=>?_⟩
 obtain ⟨rfl,hi,p⟩:=h
 by_cases lt:i<n
 ·obtain ⟨a,b⟩:=hs i σ H lt p;exact .inr ⟨a,Pv (i+1),fun σ' H' p'=>⟨n - (i+1),⋯,rfl,lt,p'⟩,b⟩
 ·obtain rfl:i=n:=⋯;exact .inl (hd σ H p)
theorem wu {J:It} {g:TG} {tb:TS} {D:Ends} {σ:St} {H:Hp} (n:Nat) (Pv:Nat→St→Hp→Prop) (h0:Pv 0 σ H)
  (hs:∀ i σ H,i<n→Pv i σ H→J.go i H∧∀ x H',J.yld i H x H'→∀ D':Ends,(∀ σ H,Pv (i+1) σ H→D'.nx σ H)→(∀ v H,D.rt v H→D'.rt v H)→g x σ H' fun σ2 H2=>tb D' σ2 H2) (hd:∀ σ H,Pv n σ H→J.stop n H∧D.nx σ H):
  Lp J g tb D σ H:=
 qe9 n Pv h0 (fun i σ H hi p=>⟨(hs i σ H hi p).1,fun x H' y=>(hs i σ H hi p).2 x H' y _ (fun _ _ h=>h) fun _ _ h=>h⟩) hd
theorem qe8 {K:Frag} {a:Ac} {ws:List V} {ds:List Aa} {H0:Hp} {k:Nat} {tb:TS} {D:Ends} {σ:St} {H:Hp} (rs:Reps K H0 ws ds) (Pv:Nat→St→Hp→Prop) (h0:Pv 0 σ H) (sq:∀ i σ H,Pv i σ H→SqT K H a ws)
  (hs:∀ i σ H v d,i<ds.length→ds[i]?=some d→Rep K H0 v d→Pv i σ H→∀ D':Ends,(∀ σ H,Pv (i+1) σ H→D'.nx σ H)→(∀ v H,D.rt v H→D'.rt v H)→tb D' (σ.set k (some v)) H) (hd:∀ σ H,Pv ds.length σ H→D.nx σ H):
  Lp (Itt K a) (qE k) tb D σ H:=by
 have hl:=rs.length;refine wu ds.length Pv h0 (fun i σ H hi p=>?_) fun σ H p=>⟨⟨ws,sq _ σ H p,⋯⟩,hd σ H p⟩;have hx:ws[i]?=some (ws[i]'⋯):=Br ⋯;obtain ⟨d,he,rd⟩:=rs.get hx;refine ⟨⟨ws,_,sq i σ H p,hx⟩,fun v H' yl=>?_⟩;obtain ⟨rfl,hv⟩:=yl;have ev:=Bb (hx.symm.trans (hv ws (sq i σ H' p)));rw [← ev];exact hs i σ H' _ d hi he rd p
theorem qjs {K:Frag} {a:Ac} {ws:List V} {ds:List Aa} {H0:Hp} {k:Nat} {tb:TS} {D:Ends} {σ:St} {H:Hp} (rs:Reps K H0 ws ds) (Pv:Nat→St→Hp→Prop) (h0:Pv 0 σ H) (sq:∀ i σ H,Pv i σ H→SqL K H a ws)
  (hs:∀ i σ H v d,i<ds.length→ds[i]?=some d→Rep K H0 v d→Pv i σ H→∀ D':Ends,(∀ σ H,Pv (i+1) σ H→D'.nx σ H)→(∀ v H,D.rt v H→D'.rt v H)→tb D' (σ.set k (some v)) H) (hd:∀ σ H,Pv ds.length σ H→D.nx σ H):
  Lp (Itl K a) (qE k) tb D σ H:=by
 have hl:=rs.length;refine wu ds.length Pv h0 (fun i σ H hi p=>?_) fun σ H p=>⟨⟨ws,sq _ σ H p,⋯⟩,hd σ H p⟩;have hx:ws[i]?=some (ws[i]'⋯):=Br ⋯;obtain ⟨d,he,rd⟩:=rs.get hx;refine ⟨⟨ws,_,sq i σ H p,hx⟩,fun v H' yl=>?_⟩;obtain ⟨rfl,hv⟩:=yl;have ev:=Bb (hx.symm.trans (hv ws (sq i σ H' p)));rw [← ev];exact hs i σ H' _ d hi he rd p
abbrev Prs (K:Frag) (H0 H:Hp):List V→List (Aa×Str)→Prop:=Paired fun (y:V) (q:Aa×Str)=>∃ a x,y= .ref a∧H a=some (.tup [x,.str q.2])∧Rep K H0 x q.1
section
variable {P:Program} {w:World} {K:Frag} {mg:Str→Option Ab} {base:Heap} {f:Ac} {fd:FuncData} {ad:Ad}
theorem Prs.write {H0 H:Hp} {p:Ac} {zs:List V} {o:HO} {ys:List V} {l:List (Aa×Str)} (hp:H p=some (.lst zs)) (h:Prs K H0 H ys l):Prs K H0 (upd H p o) ys l:=
 L2.Paired.mapP h fun y q ⟨a,x,e,ha,r⟩=>⟨a,x,e,by rw [qu (ya ha hp (by intro z;cases z))];exact ha,r⟩
theorem Prs.same {H0 H H':Hp} {ys:List V} {l:List (Aa×Str)} (g:qy H H') (h:Prs K H0 H ys l):Prs K H0 H' ys l:=L2.Paired.mapP h fun _ _ ⟨a,x,e,ha,r⟩=>⟨a,x,e,g _ _ ha,r⟩
theorem Prs.append {H0 H:Hp}:∀ {ys zs:List V} {l m:List (Aa×Str)},Prs K H0 H ys l→Prs K H0 H zs m→Prs K H0 H (ys++zs) (l++m)
 | _,_,_,_,.nil,h=>h
 | _,_,_,_,.cons r t,h=> .cons r (Prs.append t h)
def prD (q:Aa×Str):Aa:= .tuple [q.1,.str q.2]
theorem Prs.reps {H0 H:Hp} (g:qy H0 H):∀ {ys:List V} {l:List (Aa×Str)},Prs K H0 H ys l→Reps K H ys (l.map prD)
 | _,_,.nil=> .nil
 | _,_,.cons (a:=y) (b:=q) h t=>by
  obtain ⟨a,x,rfl,ha,r⟩:=h;exact .cons (.tup (SqT.of ha) (.cons (r.same g) (.cons (.str _) .nil))) (Prs.reps g t)
theorem zo {H H':Hp} {p:Ac} (g:qy H H') (h:H p=none) (o:HO):qy H (upd H' p o):=fun b u q=>by rw [qu (qC q h)];exact g b u q
inductive spInner (K:Frag) (vs:List V) (H:Hp) (Q:VK) (E':XK):Prop
 | mk:∀ x d sh hands H0,(vs=[x])→(qy H0 H)→(Rep K H0 x d)→(Tre.qQ d sh hands=true)→(∀ H' p zs,qy H H'→H p=none→H' p=some (.lst zs)→Prs K H0 H' zs (Tre.jx d)→Q (.ref p) H')→spInner K vs H Q E'
theorem qeq {sh:Str} (h:(sh=="terms"||sh=="body")=true):Tre.members.lookup sh=some ((Tre.members.lookup sh).getD ""):=by
 rw [Bt,Az,Az] at h;rcases h with rfl | rfl <;> decide+kernel
theorem wo (sh a b:Str):inV (.str sh) [.str a,.str b]=(sh==a||sh==b):=by
 rw [show ([.str a,.str b]:List V)=[a,b].map V.str from rfl,Ws];simp only [Ej,List.any_nil,Bool.or_false,Bool.beq_comm]
theorem qit {sh:Str} {d:Aa} (h:(sh=="terms"||sh=="body")=true) (hs:Tre.qi d sh=true):∃ ds,d= .tuple ds∧ds.length≤12:=by
 have row:∀ m,m≤12→Tre.JK d m=true→∃ ds,d= .tuple ds∧ds.length≤12:=fun m hm h=>by
  cases d with
  | tuple ds=>exact ⟨ds,rfl,Aw (A3 h) hm⟩
  | _=>cases h
 rw [Bt,Az,Az] at h;rcases h with rfl | rfl
 ·rw [Tre.j9] at hs;exact row 4 O0 hs
 ·rw [Tre.jD] at hs;exact row 12 O0 hs
theorem _root_.L2.Rep.tup_inv {H:Hp} {x:V} {ds:List Aa} (h:Rep K H x (.tuple ds)):∃ a xs,x= .ref a∧SqT K H a xs∧Reps K H xs ds:=by
 cases h with
 | tup hq hs=>exact ⟨_,_,rfl,hq,hs⟩
inductive Iv_TreF_0 (K:W.Frag) (H:Hp) (H0:Hp) (es:List Aa) (fs:List Str) (a:Ac) (ys:List V) (p0:Ac) (p1:Ac) (i:Nat) (σ:St) (H':Hp):Prop
 | mk:∀ o2 o3 zs,(σ=[some (.ref a),some (.ref p0),o2,o3])→(qy H H')→(H' p1=some (.tup ys))→(H' p0=some (.lst zs))→(Prs K H0 H' zs (((es.zip fs).take i).flatMap fun p=>Tre.qm p.1 p.2))→(zs.length≤12*i)→Iv_TreF_0 K H H0 es fs a ys p0 p1 i σ H'
def vB (K:Frag):TS:=vo (tBM K "list" Wn (qk 1) (qe (wB (QO K (qk 2)) [none,some 3] (qE 0) Zb (Jm (qe (qk 0) (qe (qh3 Tre.members (qk 1)) qx)))) qx))
def vA (K:Frag):TS:=vo (tBM K "list" vd (qk 1) (qe (Jm (qe (qk 2) (qe (qk 3) qx))) qx))
def vz (K:Frag):TS:=zO (qW (tOp (rIn K false) (qk 3) (Jm (qe (tC (V.str "terms")) (qe (tC (V.str "body")) qx))))) (vB K) zn
def vy (K:Frag):TS:=zO (qW (tOp rEq (qk 3) (tC (V.str "term")))) (vA K) (vz K)
def vx (K:Frag):TS:=qO (Qa (qhk K (qe (tSl (Qn K) (qk 0) (WJ (tC (V.int 1))) VF) (qe (Zc K Tre.forms (tOp (rIx K) (qk 0) (tC (V.int 0)))) qx))) (XI K 2 (Jk (qE 2) (Jk (qE 3) ZM))) (vy K)) (zS (qk 1))
theorem vM (F:Fun K "inner_with_shapes" "inner_with_shapes" zG f fd) (c:Cs K mg ad) (T:Tb P w K mg):FnOk P w K mg base CX0 1 f fd ["part"] (spInner K):=by
 refine F.ok zw (fun vs H Q E h=>?_) (fun cdv A outer s H vs Q E hr h=>?_)
 ·obtain ⟨x,d,sh,hands,H0,rfl,_⟩:=h;rfl
 obtain ⟨x,d,sh,hands,H0,rfl,gH,hk,hf,q⟩:=h;obtain ⟨hd,es,fs,_,rfl,_,_,hfs,hf5,hlen,hsh,_⟩:=Tre.qK hf;refine ⟨_,(qc (pst 1 zw.nd (qJ qb))
   (qc (JO C3 rfl (Qq (K:=K) rfl c.zip_ (qa (zV (wQ (K:=K) rfl) (pv 0) (ju qd) jM) (qa (JI (K:=K) rfl T.FORMS (pix K (pv 0) qd) (fun _ _=>rfl)) qb))) (Zr (K:=K) (n:=2) rfl rfl (jm (pgn 2 zw.nd) (jm (pgn 3 zw.nd) VJ))) (qf (qD (qq qT (pv 3) qg (qw _)) (qf (zP (vw (K:=K) rfl By Ck Cl jG (pv 1) (qa (qB (qa (pv 2) (qa (pv 3) qb))) qb)))) (qf (qD (qq (vR (K:=K) rfl) (pv 3) (qB (qa qg (qa qg qb))) rfl) (qf (zP (vw (K:=K) rfl By PySem.F.slot_list_extend PySem.F.type_list_extend wg (pv 1) (qa (jB (sc:=qj zG) (NX:=["part","found","thing","shape"]) (N:=["one","shape"]) (js:=[none,some 3]) (WY (K:=K) rfl (pv 2)) (fun _ _ _ _ _=>(zy (i:=0) (show (["one","shape"]:List Str).Nodup from ∅) rfl (Or.inl rfl))) (fun _ _ _ _ _=>jN) (fun _ _ _ _ _=>(qB (qa (pv 0) (qa (Wp T.MEMBERS (pv 1) (fun _ _=>rfl)) qb)))) (zX rfl) ⟨∅,rfl,∅,∅,rfl,∅⟩) qb)))) qt)))))
   (qf (qr (pv 1))))),?_⟩
 show qO (zF (jz qx) (qE 1)) (vx K) _ _ _;cases hk with
 | @tup a xs ds hq hs=>
  cases hs with
  | @cons y ys e es' r rs=>
   cases r;have hys:=rs.length;refine ⟨(O0:0≤Af),fun p0 hp0=>?_⟩;have g0:=qh hp0 (.lst []);refine ⟨_,rfl,_,rfl,.inr (.inr ⟨a,_,rfl,(gH.trans g0).sqT hq,Wu _ _,fun p1 hp1=>?_⟩)⟩;rw [qfm];have g1:=g0.trans (qh hp1 (.tup ys));have n01:p0≠p1:=qC upd_same hp1;refine ⟨_,rfl,.inr (.inl ⟨_,_,0,_,rfl,rfl,(gH.trans g1).sqT hq,ql (j:=0) rfl,hd,fs,rfl,hfs,fun a3 ha3=>⟨p1,a3,rfl,⟨ys,SqT.of upd_same⟩,⟨_,ha3 _⟩,?_⟩⟩)⟩;refine wu es.length (Iv_TreF_0 K H H0 es fs a ys p0 p1) ?_ (fun i σ H2 hi h=>?_) (fun σ H2 h=>?_)
   ·exact ⟨none,none,[],rfl,g1,upd_same,by rw [qu n01];exact upd_same,.nil,Ax _⟩
   ·obtain ⟨o2,o3,zs,rfl,g2,h1,h0,pr,hz⟩:=h;obtain ⟨yi,hx⟩:=vj (l:=ys) (i:=i) ⋯;obtain ⟨sh1,hfi⟩:=vj (l:=fs) (i:=i) ⋯;have hy:(fs.map V.str)[i]?=some (.str sh1):=by rw [Bq,hfi];rfl
    refine ⟨⟨ys,_,_,_,SqT.of h1,ha3 _,hx,hy⟩,fun v H3 yl D' hn _=>?_⟩;obtain ⟨q1,xx,yy,hq1,rfl,e1,e2,rfl⟩:=yl;have e3:=hx.symm.trans (e1 ys (SqT.of h1));cases e3;have e4:=hy.symm.trans (e2 _ (ha3 _));cases e4;obtain ⟨d,hd',rd⟩:=rs.get hx;have hm:(es.zip fs)[i]?=some (d,sh1):=C6.mpr ⟨hd',hfi⟩;have hshape:Tre.qi d sh1=true:=hsh _ (Bx hm);have step:((es.zip fs).take (i+1)).flatMap (fun p=>Tre.qm p.1 p.2)=((es.zip fs).take i).flatMap (fun p=>Tre.qm p.1 p.2)++Tre.qm d sh1:=by
     rw [Bw,hm,List.flatMap_append];simp
    have g3:=qh hq1 (.tup [yi,.str sh1]);refine ⟨q1,_,rfl,SqT.of upd_same,rfl,_,_,rfl,_,_,rfl,rfl,?_⟩;have h0':=g3 _ _ h0;have h1':=g3 _ _ h1;have pr':=pr.same g3;have g2':=g2.trans g3;generalize upd H2 q1 (.tup [yi,.str sh1])=H3 at h0' h1' pr' g2' ⊢;refine ⟨_,rfl,rfl,_,rfl,?_⟩
    by_cases ht:sh1="term"
    ·refine zp (show decide _=true from An (congrArg V.str ht)) ?_;refine ⟨_,rfl,.inl ⟨rfl,zs,SqL.of h0'⟩,_,rfl,_,rfl,(O0:2≤Af),fun q2 hq2=>?_⟩;have g4:=qh hq2 (.tup [yi,.str sh1]);refine ⟨p0,zs,_,rfl,rfl,g4 _ _ h0',Ch (show zs.length≤100 from ⋯) O0,?_⟩;have e5:Tre.qm d sh1=[(d,sh1)]:=by unfold Tre.qm;rw [if_pos (Az.mpr ht)]
     refine hn _ _ ⟨_,_,zs++[.ref q2],rfl,zo (g2'.trans g4) hp0 _,?_,upd_same,?_,?_⟩
     ·rw [qu (Ne.symm n01)];exact g4 _ _ h1'
     ·rw [step,e5];refine Prs.append (Prs.write (g4 _ _ h0') (pr'.same g4)) (.cons ⟨q2,yi,rfl,?_,rd⟩ .nil);rw [qu (Ne.symm (qC h0' hq2))];exact upd_same
     ·rw [Ak,Cy];omega
    ·refine zh (show decide _=false from Ar fun z=>ht (V.str.inj z)) ?_;refine ⟨_,rfl,(O0:2≤Af),fun q2 hq2=>⟨q2,_,rfl,.inr (SqT.of upd_same),rfl,rfl,_,rfl,?_⟩⟩;have g4:=qh hq2 (.tup [.str "terms",.str "body"]);have h0'':=g4 _ _ h0';have h1'':=g4 _ _ h1';have pr'':=pr'.same g4;have g2'':=g2'.trans g4;generalize upd H3 q2 (.tup [.str "terms",.str "body"])=H4 at h0'' h1'' pr'' g2'' ⊢;have ht':(sh1=="term")=false:=Bf.mpr ht
     by_cases hb:(sh1=="terms"||sh1=="body")=true
     ·refine zp (show inV _ _=true from (wo sh1 "terms" "body").trans hb) ?_;obtain ⟨ds2,rfl,h12⟩:=qit hb hshape;obtain ⟨at',ws,ew,hw,hrs⟩:=rd.tup_inv;have hwl:=hrs.length;refine ⟨_,rfl,.inl ⟨rfl,zs,SqL.of h0''⟩,_,rfl,.inr (.inl ⟨at',ew,⟨ws,(gH.trans g2'').sqT hw⟩,?_⟩)⟩;refine ji ds2.length (fun j vs H'=>qy H4 H'∧Prs K H0 H' vs ((ds2.take j).map fun z=>(z,(Tre.members.lookup sh1).getD ""))) ⟨qy.refl _,.nil⟩ (fun j vs H' h=>?_) (Aw h12 O0) (fun j vs H' hj h=>?_) (fun vs H' h=>?_)
      ·have:=Cw h.2;rw [this,Ah];exact Bz _ _
      ·obtain ⟨g5,pv⟩:=h;have hw2:=(gH.trans (g2''.trans g5)).sqT hw;have hxw:ws[j]?=some ws[j]:=Br ⋯;refine ⟨⟨ws,_,hw2,hxw⟩,fun v H6 yl=>?_⟩;obtain ⟨rfl,hv⟩:=yl;have e6:=hxw.symm.trans (hv ws hw2);cases e6;obtain ⟨dd,hdd,rdd⟩:=hrs.get hxw;refine ⟨_,rfl,_,rfl,sh1,_,rfl,qeq hb,(O0:2≤Af),fun q3 hq3=>⟨g5.trans (qh hq3 _),?_⟩⟩;rw [Bw,hdd,A1];exact Prs.append (pv.same (qh hq3 _)) (.cons ⟨q3,ws[j],rfl,upd_same,rdd⟩ .nil)
      ·obtain ⟨g5,pv⟩:=h;refine ⟨⟨ws,(gH.trans (g2''.trans g5)).sqT hw,⋯⟩,fun D hD=>?_⟩;rw [Cb] at pv;have hvl:=Cw pv;rw [Ah] at hvl;have g6:=g5.trans (qh hD (.lst vs));refine ⟨p0,D,zs,vs,rfl,rfl,g6 _ _ h0'',upd_same,Aw (show zs.length+vs.length≤100 from ⋯) O0,?_⟩;have e5:Tre.qm (.tuple ds2) sh1=ds2.map fun z=>(z,(Tre.members.lookup sh1).getD ""):=by
        unfold Tre.qm;rw [if_neg (by rw [ht'];exact Ai),if_pos hb]
       refine hn _ _ ⟨_,_,zs++vs,rfl,zo (g2''.trans g6) hp0 _,?_,upd_same,?_,?_⟩
       ·rw [qu (Ne.symm n01)];exact g6 _ _ h1''
       ·rw [step,e5];exact Prs.append (Prs.write (g6 _ _ h0'') (pr''.same g6)) (Prs.write (g6 _ _ h0'') (pv.same (qh hD _)))
       ·rw [Ak];omega
     ·have hb':=Bs.mpr hb;refine zh (show inV _ _=false from (wo sh1 "terms" "body").trans hb') ?_;have e5:Tre.qm d sh1=[]:=by
       unfold Tre.qm;rw [if_neg (by rw [ht'];exact Ai),if_neg (by rw [hb'];exact Ai)]
      refine hn _ _ ⟨_,_,zs,rfl,g2'',h1'',h0'',?_,⋯⟩;rw [step,e5,Bi];exact pr''
   ·obtain ⟨o2,o3,zs,rfl,g2,h1,h0,pr,hz⟩:=h;refine ⟨⟨ys,_,SqT.of h1,ha3 _,.inl ⋯⟩,_,rfl,q _ p0 zs g2 hp0 h0 ?_⟩;have e5:Tre.jx (.tuple (.str hd::es))=((es.zip fs).take es.length).flatMap fun p=>Tre.qm p.1 p.2:=by
     show ((es.zip ((Tre.forms.lookup hd).getD [])).flatMap _)=_;rw [hfs,C5 (by rw [Dd];omega)]
     rfl
    rw [e5];exact pr
inductive spWithin (K:Frag) (vs:List V) (H:Hp) (Q:VK) (E':XK):Prop
 | mk:∀ x h es hands,(vs=[x,.bl hands])→(Rep K H x (.tuple (.str h::es)))→(∀ H',qy H H'→Q (.bl (Tre.Jg (.tuple (.str h::es)) hands)) H')→spWithin K vs H Q E'
theorem wY (F:Fun K "hands_within" "hands_within" Jz f fd) (c:Cs K mg ad):FnOk P w K mg base CX0 1 f fd ["part","hands"] (spWithin K):=by
 refine F.ok wU (fun vs H Q E h=>?_) (fun cdv A outer s H vs Q E hr h=>?_)
 ·obtain ⟨x,h,es,hands,rfl,_⟩:=h;rfl
 obtain ⟨x,h,es,hands,rfl,hk,q⟩:=h;refine ⟨_,(qc (qD (qq qT (pix K (pv 0) qd) qg (qw _)) (qf (qr zW)) qt)
   (qf (qr (WZ (pv 1) (JA (zf (vR (K:=K) rfl) (pix K (pv 0) qd) (qB (qa qg (qa qg qb))) rfl)))))),?_⟩
 obtain ⟨a,xs,rfl,hq,hs⟩:=hk.tup_inv;cases hs with
 | @cons y ys e es' r rs=>
  cases r;have e1:Tre.Jg (.tuple (.str h::es)) hands=if h=="fun" then false else hands||(h=="main"||h=="loop"):=rfl
  rw [e1] at q;refine ⟨_,rfl,.inr (.inl ⟨_,_,0,_,rfl,rfl,hq,ql (j:=0) rfl,rfl,_,rfl,?_⟩)⟩
  by_cases hf:h="fun"
  ·refine zp (show decide _=true from An (congrArg V.str hf)) ?_;rw [if_pos (Az.mpr hf)] at q;exact q _ (qy.refl _)
  ·refine zh (show decide _=false from Ar fun z=>hf (V.str.inj z)) ?_;rw [if_neg (fun z=>hf (Az.mp z))] at q;refine ⟨_,rfl,_,rfl,?_⟩;cases hands with
   | true=>exact vv (q _ (qy.refl _))
   | false=>
    refine w4 ⟨_,rfl,.inr (.inl ⟨_,_,0,_,rfl,rfl,hq,ql (j:=0) rfl,(O0:2≤Af),fun p hp=>⟨p,_,rfl,.inr (SqT.of upd_same),rfl,rfl,?_⟩⟩)⟩;have q':=q _ (qh hp (.tup [.str "main",.str "loop"]));rw [Ey,← wo h "main" "loop"] at q';exact q'
abbrev Trs (K:Frag) (H0 H:Hp):List V→Tre.Lv→Prop:=Paired fun (y:V) (q:Aa×Str×Bool)=>∃ a x,y= .ref a∧H a=some (.tup [x,.str q.2.1,.bl q.2.2])∧Rep K H0 x q.1
theorem Trs.write {H0 H:Hp} {p:Ac} {zs:List V} {o:HO} {ys:List V} {l:Tre.Lv} (hp:H p=some (.lst zs)) (h:Trs K H0 H ys l):Trs K H0 (upd H p o) ys l:=
 L2.Paired.mapP h fun _ _ ⟨a,x,e,ha,r⟩=>⟨a,x,e,by rw [qu (ya ha hp (by intro z;cases z))];exact ha,r⟩
theorem Trs.same {H0 H H':Hp} {ys:List V} {l:Tre.Lv} (g:qy H H') (h:Trs K H0 H ys l):Trs K H0 H' ys l:=L2.Paired.mapP h fun _ _ ⟨a,x,e,ha,r⟩=>⟨a,x,e,g _ _ ha,r⟩
theorem Trs.append {H0 H:Hp}:∀ {ys zs:List V} {l m:Tre.Lv},Trs K H0 H ys l→Trs K H0 H zs m→Trs K H0 H (ys++zs) (l++m)
 | _,_,_,_,.nil,h=>h
 | _,_,_,_,.cons r t,h=> .cons r (Trs.append t h)
theorem Trs.get {H0 H:Hp}:∀ {ys:List V} {l:Tre.Lv} {i:Nat} {q:Aa×Str×Bool},Trs K H0 H ys l→l[i]?=some q→∃ a x,ys[i]?=some (.ref a)∧H a=some (.tup [x,.str q.2.1,.bl q.2.2])∧Rep K H0 x q.1
 | _,_,_,_,.nil,h=>by simp at h
 | _,_,0,_,.cons ⟨a,x,e,ha,r⟩ t,h=>by
  simp at h;subst h;exact ⟨a,x,by rw [e];rfl,ha,r⟩
 | _,_,i+1,_,.cons r t,h=>by
  simp only [List.getElem?_cons_succ] at h ⊢;exact Trs.get t h
theorem Prs.get {H0 H:Hp}:∀ {ys:List V} {l:List (Aa×Str)} {i:Nat} {q:Aa×Str},Prs K H0 H ys l→l[i]?=some q→∃ a x,ys[i]?=some (.ref a)∧H a=some (.tup [x,.str q.2])∧Rep K H0 x q.1
 | _,_,_,_,.nil,h=>by simp at h
 | _,_,0,_,.cons ⟨a,x,e,ha,r⟩ t,h=>by
  simp at h;subst h;exact ⟨a,x,by rw [e];rfl,ha,r⟩
 | _,_,i+1,_,.cons r t,h=>by
  simp only [List.getElem?_cons_succ] at h ⊢;exact Prs.get t h
inductive PvP (K:Frag) (x:V) (d:Aa) (H:Hp) (m:Nat) (σ:St) (H':Hp):Prop
 | mk:∀ (L:Ac) (zs:List V) (lv:Tre.Lv) (n sz:Nat) (o4 o5 o6 o7 o8:Option V),(σ=[some x,some (.ref L),some (.int n),some (.int sz),o4,o5,o6,o7,o8])→(qy H H')→(H' L=some (.lst zs))→(H L=none)→(Trs K H H' zs lv)→(m+n=20)→(Tre.WA m sz lv=Tre.zJ d)→((∀ p∈lv,Tre.fit p.1=true∧(Tre.heads.lookup p.2.1).isSome=true))→(sz≤300)→(lv.length≤18000)→PvP K x d H m σ H'
theorem qbb (n sz:Nat):Tre.WA n sz []=true:=by cases n <;> rfl
inductive Iv_TreH_0 (K:W.Frag) (H:Hp) (x:V) (L:Ac) (zs:List V) (lv:Tre.Lv) (n:Nat) (sz:Nat) (B:Ac) (i:Nat) (σ:St) (H':Hp):Prop
 | mk:∀ o5 o6 o7 o8 bs,(σ=[some x,some (.ref L),some (.int ((n:Int)+1)),some (.int ((sz:Int)+(zs.length:Nat))),some (.ref B),o5,o6,o7,o8])→(qy H H')→(H' L=some (.lst zs))→(H' B=some (.lst bs))→(Trs K H H' zs lv)→(Trs K H H' bs (Tre.vp (lv.take i)))→(∀ p∈lv.take i,Tre.qQ p.1 p.2.1 p.2.2=true)→Iv_TreH_0 K H x L zs lv n sz B i σ H'
def yO (K:Frag):TS:=vo (tBM K "list" Wn (qk 4) (qe (wB (QO K (qI (spInner K) [] E0 (qe (qk 5) qx))) [none,none,some 8] (XI K 2 (Jk (qE 0) (Jk (qE 1) ZM))) Zb (Jm (qe (qk 0) (qe (qk 1) (qe (qk 2) qx))))) qx))
def yN (K:Frag):TS:=qO (zF (qI (spWithin K) [] E0 (qe (qk 5) (qe (qk 7) qx))) (qE 8)) (yO K)
def yM (K:Frag):TS:=qO (zO (Z9 (tB (qI (spForm K) [] E0 (qe (qk 5) (qe (qk 6) (qe (qk 7) qx)))))) (zS (tC (V.bl false))) zn) (yN K)
def yL (K:Frag):TS:=qO (Qa (QO K (qk 1)) (XI K 3 (Jk (qE 5) (Jk (qE 6) (Jk (qE 7) ZM)))) (yM K)) (zF (qk 4) (qE 1))
def yK (K:Frag):TS:=qO (zF (jz qx) (qE 4)) (yL K)
def yJ (K:Frag):TS:=qO (zO (tOr (qW (tOp (rI0 fun i j=>V.bl (decide (j<i))) (qk 2) (tC (V.int 20)))) (qW (tOp (rI0 fun i j=>V.bl (decide (j<i))) (qk 3) (tC (V.int 300))))) (zS (tC (V.bl false))) zn) (yK K)
def yI (K:Frag):TS:=qO (qil 3 (tCB (fun xs H Q=>∃ x n,xs=[x]∧wz K x H n∧Q (V.int ↑n) H) (qe (qk 1) qx)) (ipI fun i j=>i+j)) (yJ K)
def yH (K:Frag):TS:=qO (qil 2 (tC (V.int 1)) (ipI fun i j=>i+j)) (yI K)
def yG (K:Frag):TS:=qO (Z6 (fun σ H Q=>qk 1 σ H fun x H'=>∃ k,qhw K x H' k∧Q k H') (yH K)) (zS (tC (V.bl true)))
def yF (K:Frag):TS:=qO (zF (tC (V.int 0)) (qE 3)) (yG K)
def Wi (K:Frag):TS:=qO (zF (tC (V.int 0)) (qE 2)) (yF K)
theorem yU (F:Fun K "is_program" "is_program" Jr f fd) (c:Cs K mg ad) (d_has_form:Def P w K mg base 4 "has_form" ["thing","shape","hands"] (spForm K)) (d_hands_within:Def P w K mg base 1 "hands_within" ["part","hands"] (spWithin K)) (d_inner_with_shapes:Def P w K mg base 1 "inner_with_shapes" ["part"] (spInner K)):FnOk P w K mg base CX0 5 f fd ["thing"] (spD K Tre.zJ):=by
 refine F.ok qS (fun vs H Q E h=>?_) (fun cdv A outer s H vs Q E hr h=>?_)
 ·obtain ⟨x,d,rfl,_⟩:=h;rfl
 obtain ⟨x,d,rfl,hk,ft,q⟩:=h;refine ⟨_,(qc (pst 1 qS.nd (qJ (qa (qB (qa (pv 0) (qa qg (qa zW qb)))) qb)))
   (qc (pst 2 qS.nd qd)
   (qc (pst 3 qS.nd qd)
   (qc (Zp C3 (pt_k (K:=K) rfl (pv 1)) (qc (qd6 (i:=2) qS.nd rfl (by first | exact Or.inl rfl | exact Or.inr rfl) qd qew)
   (qc (qd6 (i:=3) qS.nd rfl (by first | exact Or.inl rfl | exact Or.inr rfl) (qz (zN (K:=K) rfl) (by rfl) c.len_ ze (qa (pv 1) qb)) qew)
   (qc (qD (PW.pt (Jc (qq Yz (pv 2) (W1 c.MOST_DEPTH) (qw _)) (jL (qq Yz (pv 3) (W1 c.MOST_PARTS) (qw _))))) (qf (qr zW)) qt)
   (qc (pst 4 qS.nd (qJ qb))
   (qc (JO C3 rfl (WY (K:=K) rfl (pv 1)) (Zr (K:=K) (n:=3) rfl rfl (jm (pgn 5 qS.nd) (jm (pgn 6 qS.nd) (jm (pgn 7 qS.nd) VJ)))) (qc (qD (jd (zt (pdf d_has_form (qa (pv 5) (qa (pv 6) (qa (pv 7) qb)))))) (qf (qr zW)) qt)
   (qc (pst 8 qS.nd (pdf d_hands_within (qa (pv 5) (qa (pv 7) qb))))
   (qf (zP (vw (K:=K) rfl By PySem.F.slot_list_extend PySem.F.type_list_extend wg (pv 4) (qa (jB (sc:=qj Jr) (NX:=["thing","level","depth","size","below","part","shape","hands","within"]) (N:=["inner","inner_shape","within"]) (js:=[none,none,some 8]) (WY (K:=K) rfl (pdf d_inner_with_shapes (qa (pv 5) qb))) (fun _ _ _ _ _=>(Zr (K:=K) (n:=2) rfl rfl (jm (zy (i:=0) (show (["inner","inner_shape","within"]:List Str).Nodup from ∅) rfl (Or.inl rfl)) (jm (zy (i:=1) (show (["inner","inner_shape","within"]:List Str).Nodup from ∅) rfl (Or.inl rfl)) VJ)))) (fun _ _ _ _ _=>jN) (fun _ _ _ _ _=>(qB (qa (pv 0) (qa (pv 1) (qa (pv 2) qb))))) (qak rfl rfl) ⟨∅,rfl,∅,∅,rfl,∅⟩) qb)))))))
   (qf (pst 1 qS.nd (pv 4)))))))))
   (qf (qr zW)))))),?_⟩
 show qO (zF (jz (qe (Jm (qe (qk 0) (qe (tC (V.str "program")) (qe (tC (V.bl false)) qx)))) qx)) (qE 1)) (Wi K) _ _ _;refine ⟨_,rfl,(O0:3≤Af),fun p1 hp1=>⟨(O0:1≤Af),fun L0 hL0=>?_⟩⟩;have g0:=(qh hp1 (.tup [x,.str "program",.bl false])).trans (qh hL0 (.lst [.ref p1]));refine ⟨PvP K x d H,⟨20,?_⟩,?_⟩
 ·refine ⟨L0,_,[(d,"program",false)],0,0,none,none,none,none,none,rfl,g0,upd_same,(qh hp1 _).free hL0,?_,rfl,rfl,fun p hp=>?_,O0,by simp⟩
  ·exact .cons ⟨p1,x,rfl,by rw [qu (qC upd_same hL0)];exact upd_same,hk⟩ .nil
  ·rw [A0] at hp;subst hp;exact ⟨ft,by show (Tre.heads.lookup (Str.ofString "program")).isSome=true;decide+kernel⟩
 ·rintro m σ H1 ⟨L,zs,lv,n,sz,o4,o5,o6,o7,o8,rfl,g,hL,hL0',tr,hn,hw,hlv,hsz,hll⟩;refine ⟨_,rfl,_,.inl ⟨zs,SqL.of hL,rfl⟩,?_⟩
  by_cases he:lv=[]
  ·subst he;cases tr;rw [qbb] at hw;rw [← hw] at q;exact q _ g
  have hlen:=Cw tr;have hz1:1≤lv.length:=by
   cases lv with
   | nil=>exact absurd rfl he
   | cons _ _=>simp
  have hemp:lv.isEmpty=false:=by
   cases lv with
   | nil=>exact absurd rfl he
   | cons _ _=>rfl
  have qF:Tre.zJ d=false→∀ H',qy H H'→Q (.bl false) H':=fun e H' g'=>e▸q H' g';refine zp (show (!zs.isEmpty)=true by cases zs with | nil=>simp at hlen;omega | cons _ _=>rfl) ?_
  refine ⟨fun σ' H'=>∃ m',m'<m∧PvP K x d H m' σ' H',fun σ' H' h=>h,?_⟩;refine ⟨_,rfl,_,_,rfl,rfl,_,rfl,_,rfl,_,_,rfl,.inl ⟨zs,SqL.of hL,rfl⟩,_,_,rfl,rfl,?_⟩;refine ⟨_,rfl,_,_,rfl,rfl,_,rfl,?_⟩;cases m with
  | zero=>
   refine zp (show decide _=true from An (by show (20:Int)<(n:Int)+1;omega)) (vv (qF ?_ _ g))
   rw [← hw];exact hemp
  | succ m=>
   refine zh (show decide _=false from Ar (by show ¬ (20:Int)<(n:Int)+1;omega)) ?_
   refine ⟨_,rfl,_,_,rfl,rfl,_,rfl,?_⟩;rw [Tre.WA,hemp,Ey] at hw
   by_cases hs:sz+lv.length≤300
   ·refine zh (show decide _=false from Ar (by show ¬ (300:Int)<(sz:Int)+((zs.length:Nat):Int);omega)) ?_
    rw [An hs,B0] at hw;refine ⟨(O0:0≤Af),fun B hB=>?_⟩;have gB:=qh hB (.lst []);have hB0:H B=none:=g.free hB;have nLB:L≠B:=qC hL hB;refine ⟨_,rfl,.inl ⟨L,rfl,⟨zs,SqL.of (gB _ _ hL)⟩,?_⟩⟩;refine wu lv.length (Iv_TreH_0 K H x L zs lv n sz B) ?_ (fun i σ H2 hi h=>?_) (fun σ H2 h=>?_)
    ·exact ⟨_,_,_,_,[],rfl,g.trans gB,gB _ _ hL,upd_same,tr.same gB,.nil,fun p hp=>by simp at hp⟩
    ·obtain ⟨o5,o6,o7,o8,bs,rfl,g2,hL2,hB2,tr2,trb,hfs⟩:=h;have hqi:lv[i]?=some lv[i]:=Br hi;generalize lv[i]=p at hqi;obtain ⟨a,xi,hzi,hai,rxi⟩:=tr2.get hqi;refine ⟨⟨zs,_,SqL.of hL2,hzi⟩,fun v H3 yl D' hn hr'=>?_⟩;obtain ⟨rfl,hv⟩:=yl;have e1:=hzi.symm.trans (hv zs (SqL.of hL2));cases e1;refine ⟨a,_,rfl,SqT.of hai,rfl,_,_,rfl,_,_,rfl,_,_,rfl,rfl,?_⟩;obtain ⟨hfit,hhd⟩:=hlv p (Bx hqi);refine ⟨_,rfl,_,rfl,_,rfl,xi,p.1,p.2.1,p.2.2,rfl,rxi.same g2,hfit,hhd,fun H4 g4=>⟨_,rfl,?_⟩⟩
     by_cases hf:Tre.qQ p.1 p.2.1 p.2.2=true
     ·refine zh (show (!Tre.qQ p.1 p.2.1 p.2.2)=false by rw [hf];rfl) ?_
      obtain ⟨hd,es,fs,l,ep,_⟩:=Tre.qK hf;refine ⟨_,rfl,_,rfl,xi,hd,es,p.2.2,rfl,ep▸rxi.same (g2.trans g4),fun H5 g5=>?_⟩;have g25:=(g2.trans g4).trans g5;have g35:=g4.trans g5;have hB5:=g35 _ _ hB2;refine ⟨_,rfl,.inl ⟨rfl,bs,SqL.of hB5⟩,_,rfl,xi,p.1,p.2.1,p.2.2,H,rfl,g25,rxi,hf,fun H6 p6 ps g6 hp6 hl6 prs=> .inl ⟨p6,rfl,⟨ps,SqL.of hl6⟩,?_⟩⟩;have hpl:=Cw prs;have hil:=Tre.ZI hf;refine ji (Tre.jx p.1).length (fun j vs H'=>qy H6 H'∧Trs K H H' vs (((Tre.jx p.1).take j).map fun z=>(z.1,z.2,Tre.Jg p.1 p.2.2))) ⟨qy.refl _,.nil⟩ (fun j vs H' h=>?_) (Aw hil O0) (fun j vs H' hj h=>?_) (fun vs H' h=>?_)
      ·have:=Cw h.2;rw [this,Ah];exact Bz _ _
      ·obtain ⟨g7,tv⟩:=h;have hj2:(Tre.jx p.1)[j]?=some (Tre.jx p.1)[j]:=Br hj;generalize (Tre.jx p.1)[j]=z at hj2;obtain ⟨az,xz,hpz,haz,rxz⟩:=prs.get hj2;refine ⟨⟨ps,_,SqL.of (g7 _ _ hl6),hpz⟩,fun v H8 yl=>?_⟩;obtain ⟨rfl,hv⟩:=yl;have e6:=hpz.symm.trans (hv ps (SqL.of (g7 _ _ hl6)));cases e6;refine ⟨az,_,rfl,SqT.of (g7 _ _ haz),rfl,_,_,rfl,_,_,rfl,rfl,?_⟩;refine ⟨_,rfl,_,rfl,_,rfl,(O0:3≤Af),fun q3 hq3=>⟨g7.trans (qh hq3 _),?_⟩⟩;rw [Bw,hj2,A1];refine Trs.append (tv.same (qh hq3 _)) (.cons ⟨q3,xz,rfl,?_,rxz⟩ .nil);rw [upd_same,ep]
      ·obtain ⟨g7,tv⟩:=h;refine ⟨⟨ps,SqL.of (g7 _ _ hl6),⋯⟩,fun D hD=>?_⟩;rw [Cb] at tv;have hvl:=Cw tv;rw [Ah] at hvl;have hbl:=Cw trb;have hbb:=Tre.ZV hfs;have hti:=Bz i lv;have gD:=qh hD (.lst vs);have g3D:=((g35.trans g6).trans g7).trans gD;refine ⟨B,D,bs,vs,rfl,rfl,g3D _ _ hB2,upd_same,Aw (show bs.length+vs.length≤100000 from ⋯) O0,?_⟩;have eb:Tre.vp (lv.take (i+1))=Tre.vp (lv.take i)++(Tre.jx p.1).map fun z=>(z.1,z.2,Tre.Jg p.1 p.2.2):=by
        unfold Tre.vp;rw [Bw,hqi,List.flatMap_append];simp
       refine hn _ _ ⟨_,_,_,_,bs++vs,rfl,zo (g2.trans g3D) hB0 _,?_,upd_same,Trs.write (g3D _ _ hB2) (tr2.same g3D),?_,fun p' hp'=>?_⟩
       ·rw [qu nLB];exact g3D _ _ hL2
       ·rw [eb];exact Trs.append (Trs.write (g3D _ _ hB2) (trb.same g3D)) (Trs.write (g3D _ _ hB2) (tv.same gD))
       ·rw [Bw,hqi,Ci] at hp';rcases hp' with hp' | hp'
        ·exact hfs p' hp'
        ·simp at hp';subst hp';exact hf
     ·have hf':=Bs.mpr hf;refine zp (show (!Tre.qQ p.1 p.2.1 p.2.2)=true by rw [hf'];rfl) (hr' _ _ (qF ?_ _ (g2.trans g4)))
      rw [← hw];have:(List.all lv fun p=>Tre.qQ p.1 p.2.1 p.2.2)=false:=by
       rw [List.all_eq_false];exact ⟨p,Bx hqi,hf⟩
      rw [this,B3]
    ·obtain ⟨o5,o6,o7,o8,bs,rfl,g2,hL2,hB2,tr2,trb,hfs⟩:=h;rw [Cb] at trb hfs;have e1:(n:Int)+1=((n+1:Nat):Int):=⋯;have e2:(sz:Int)+((zs.length:Nat):Int)=((sz+lv.length:Nat):Int):=⋯;have hbb:=Tre.ZV hfs;refine ⟨⟨zs,SqL.of hL2,⋯⟩,_,rfl,m,Eg m,B,bs,Tre.vp lv,n+1,sz+lv.length,some (.ref B),o5,o6,o7,o8,?_,g2,hB2,hB0,trb,⋯,?_,fun p hp=>?_,hs,⋯⟩
     ·show [some x,some (.ref B),some (.int ((n:Int)+1)),some (.int ((sz:Int)+((zs.length:Nat):Int))),some (.ref B),o5,o6,o7,o8]=_;rw [e1,e2]
     ·rw [← hw];have:(List.all lv fun p=>Tre.qQ p.1 p.2.1 p.2.2)=true:=A4.mpr fun p hp=>hfs p hp;rw [this,B0]
     ·obtain ⟨q',hq',hp2⟩:=Ct.mp hp;obtain ⟨z,hz,rfl⟩:=Bo.mp hp2;refine ⟨Tre.qb6 (hlv q' hq').1 hz,?_⟩;rcases Tre.QM hz with e | e
      ·show (Tre.heads.lookup z.2).isSome=true;rw [e];decide+kernel
      ·show (Tre.heads.lookup z.2).isSome=true;rw [e];decide+kernel
   ·refine zp (show decide _=true from An (by show (300:Int)<(sz:Int)+((zs.length:Nat):Int);omega)) (qF ?_ _ g)
    rw [← hw,Ar hs];rfl
inductive spCell (K:Frag) (vs:List V) (H:Hp) (Q:VK) (E':XK):Prop
 | mk:∀ (a:Ac) (ns:List Int) (k:Int),(vs=[.ref a,.int k])→(SqL K H a (ns.map V.int))→(0≤k)→(∀ i,Q (.int i) H)→spCell K vs H Q E'
theorem W6 (F:Fun K "_law_cell_at" "_law_cell_at" JN f fd) (c:Cs K mg ad):FnOk P w K mg base CX0 1 f fd ["_law_script","_law_k"] (spCell K):=by
 refine F.ok WQ (fun vs H Q E h=>?_) (fun cdv A outer s H vs Q E hr h=>?_)
 ·obtain ⟨a,ns,k,rfl,_⟩:=h;rfl
 obtain ⟨a,ns,k,rfl,hS,hk,q⟩:=h;refine ⟨_,(qc (qD (qq Vh (pv 1) (qz (zN (K:=K) rfl) (by rfl) c.len_ ze (qa (pv 0) qb)) (qw _)) (qf (qr (pix K (pv 0) (pv 1)))) qt)
   (qf (qr qd))),?_⟩
 refine ⟨_,rfl,_,rfl,_,_,rfl,.inl ⟨_,hS,rfl⟩,_,_,rfl,rfl,_,rfl,?_⟩;refine w6 (fun c1=>?_) (fun c1=>?_)
 ·have c1':k<(((ns.map V.int).length:Nat):Int):=A3 c1;rw [Ah] at c1';have hk2:k.toNat<ns.length:=⋯;have ek:k=((k.toNat:Nat):Int):=⋯;have hv:atI (ns.map V.int) ((k.toNat:Nat):Int)=some (.int ns[k.toNat]):=ql (by rw [Bq,Br hk2] <;> rfl)
  rw [← ek] at hv;exact ⟨_,rfl,_,rfl,ixL hS hv (q _)⟩
 ·exact q 0
def stK (a:Ac) (k l:Int) (nm:Ac):List (Key×V):=[(Sum.inr "cells",.ref a),(Sum.inr "at",.int k),(Sum.inr "left",.int l),(Sum.inr "names",.ref nm)]
theorem kne {a b:Str} (h:¬ a=b):¬ (Sum.inr a:Key)=Sum.inr b:=fun e=>h (Sum.inr.inj e)
theorem qb1:¬ (Sum.inr ("cells":Str):Key)=Sum.inr ("at":Str):=kne ∅
theorem qjd:¬ (Sum.inr ("cells":Str):Key)=Sum.inr ("left":Str):=kne ∅
theorem qk6:¬ (Sum.inr ("cells":Str):Key)=Sum.inr ("names":Str):=kne ∅
theorem qje:¬ (Sum.inr ("at":Str):Key)=Sum.inr ("left":Str):=kne ∅
theorem qk7:¬ (Sum.inr ("at":Str):Key)=Sum.inr ("names":Str):=kne ∅
theorem qk5:¬ (Sum.inr ("left":Str):Key)=Sum.inr ("names":Str):=kne ∅
theorem n_la:¬ (Sum.inr ("left":Str):Key)=Sum.inr ("at":Str):=kne ∅
theorem n_na:¬ (Sum.inr ("names":Str):Key)=Sum.inr ("at":Str):=kne ∅
theorem n_nl:¬ (Sum.inr ("names":Str):Key)=Sum.inr ("left":Str):=kne ∅
section
variable (a:Ac) (k l:Int) (nm:Ac)
theorem qdj:vq (stK a k l nm) (Sum.inr "cells")=some (.ref a):=jI rfl
theorem qdk:vq (stK a k l nm) (Sum.inr "at")=some (.int k):=(jk qb1).trans (jI rfl)
theorem vX:vq (stK a k l nm) (Sum.inr "left")=some (.int l):=(jk qjd).trans ((jk qje).trans (jI rfl))
theorem Zg:vq (stK a k l nm) (Sum.inr "names")=some (.ref nm):=(jk qk6).trans ((jk qk7).trans ((jk qk5).trans (jI rfl)))
theorem qdi (j:Int):jy (stK a k l nm) (Sum.inr "at") (.int j)=stK a j l nm:=by
 unfold jy;rw [if_pos (by rw [JU,qdk];rfl)]
 unfold stK;simp only [As,Cd];rw [if_neg qb1,if_pos trivial,if_neg n_la,if_neg n_na]
theorem WM (j:Int):jy (stK a k l nm) (Sum.inr "left") (.int j)=stK a k j nm:=by
 unfold jy;rw [if_pos (by rw [JU,vX];rfl)]
 unfold stK;simp only [As,Cd];rw [if_neg qjd,if_neg qje,if_pos trivial,if_neg n_nl]
end
inductive spNext (K:Frag) (vs:List V) (H:Hp) (Q:VK) (E':XK):Prop
 | mk:∀ (d a nm:Ac) (ns:List Int) (k l:Int),(vs=[.ref d])→(H d=some (.dK (stK a k l nm)))→(SqL K H a (ns.map V.int))→(0≤k)→(k≤1000000)→(∀ (n:Int) (H':Hp),0≤n→n<268435456→H'=upd H d (.dK (stK a (k+1) l nm))→Q (.int n) H')→spNext K vs H Q E'
theorem Zw (F:Fun K "_law_next" "_law_next" va f fd) (c:Cs K mg ad) (d_law_cell_at:Def P w K mg base 1 "_law_cell_at" ["_law_script","_law_k"] (spCell K)):FnOk P w K mg base CX0 2 f fd ["_law_state"] (spNext K):=by
 refine F.ok jE (fun vs H Q E h=>?_) (fun cdv A outer s H vs Q E hr h=>?_)
 ·obtain ⟨d,a,nm,ns,k,l,rfl,_⟩:=h;rfl
 obtain ⟨d,a,nm,ns,k,l,rfl,hd,hS,hk0,hk1,q⟩:=h;have hu:=ZK hr;refine ⟨_,(qc (Wo hu (pv 0) qg (qo qA (zH hu (pv 0) qg (fun _ _=>rfl)) qd) rfl)
   (qc (pst 1 jE.nd (zH hu (pv 0) qg (fun _ _=>rfl)))
   (qc (pst 2 jE.nd (pdf d_law_cell_at (qa (zH hu (pv 0) qg (fun _ _=>rfl)) (qa (qo qP (pv 1) (qz (YV rfl) (by rfl) c.max_ qfr (qa qd (qa (qz (zN (K:=K) rfl) (by rfl) c.len_ ze (qa (zH hu (pv 0) qg (fun _ _=>rfl)) qb)) qb)))) qb))))
   (qf (qr (qo zQ (qo qP (qo qA (qo Ji (pv 2) qd) (qo Ji (qo Ji (pv 1) (pv 1)) qd)) qd) qd)))))),?_⟩
 clear hu;refine ⟨_,rfl,_,_,rfl,(by rw [← qdk a k l nm];exact jZ.k (k:=Sum.inr "at") hd),.inl ⟨_,_,rfl,rfl,?_⟩⟩
 refine ⟨_,rfl,d,upd H d (.dK (stK a (k+1) l nm)),rfl,(by rw [← qdi a k l nm (k+1)];exact ZY.k (k:=Sum.inr "at") hd (Ch (show 4≤1000 from O0) O0)),?_⟩
 have hd':upd H d (.dK (stK a (k+1) l nm)) d=some (.dK (stK a (k+1) l nm)):=upd_same;have hS':SqL K (upd H d (.dK (stK a (k+1) l nm))) a (ns.map V.int):=(Stay.put hd).sqL hS;have gAt:jZ (upd H d (.dK (stK a (k+1) l nm))) d (.str "at") (some (.int (k+1))):=by rw [← qdk a (k+1) l nm];exact jZ.k (k:=Sum.inr "at") hd'
 have gCe:jZ (upd H d (.dK (stK a (k+1) l nm))) d (.str "cells") (some (.ref a)):=by rw [← qdj a (k+1) l nm];exact jZ.k (k:=Sum.inr "cells") hd'
 have hm:0<(if (((ns.map V.int).length:Nat):Int)>1 then (((ns.map V.int).length:Nat):Int) else 1):=by split <;> omega
 refine ⟨_,rfl,d,_,rfl,gAt,_,rfl,d,_,rfl,gCe,_,rfl,_,rfl,d,_,rfl,gCe,_,_,rfl,.inl ⟨_,hS',rfl⟩,_,_,rfl,_,_,rfl,rfl,hm,a,ns,_,rfl,hS',Be _ ⋯,fun i=>?_⟩;have b1:X5 (k+1) (k+1):= .inl ⟨⋯,⋯⟩;refine ⟨_,rfl,_,_,rfl,rfl,.inr ⟨O0,O0⟩,_,rfl,_,rfl,_,_,rfl,rfl,b1,_,_,rfl,rfl,.inr ⟨O0,O0⟩,.inl ⟨_,_,rfl,rfl,_,_,rfl,rfl,(show (0:Int)<2147483647 from O0),_,_,rfl,rfl,⟨O0,O0⟩,?_⟩⟩;refine q _ _ ?_ ?_ rfl
 ·exact Int.ediv_nonneg (Be _ O0) O0
 ·have:=A9 (i*48271+(k+1)*(k+1)*69621) (show (0:Int)<2147483647 from O0);show (i*48271+(k+1)*(k+1)*69621) % 2147483647 / 8<268435456;omega
theorem num_of {i:Int} (h: -1000000000000≤i) (h':i≤1000000000000):Tre.jP i=true:=by
 unfold Tre.jP;rw [An h,An h'];rfl
theorem VZ {xs:List V} {i:Int} {p:V→Prop} (h:∀ x∈xs,p x) (h0:0≤i) (h1:i<(xs.length:Int)):∃ v,atI xs i=some v∧p v:=by
 have hk:i.toNat<xs.length:=⋯;have ek:i=((i.toNat:Nat):Int):=⋯;have q:atI xs ((i.toNat:Nat):Int)=some xs[i.toNat]:=ql (Br hk);rw [← ek] at q;exact ⟨_,q,h _ (List.getElem_mem hk)⟩
inductive spNumber (vs:List V) (H:Hp) (Q:VK) (E':XK):Prop
 | mk:∀ (m:Int),(vs=[.int m])→(0≤m)→(m<268435456)→(∀ (i:Int) (H':Hp),Tre.jP i=true→qy H H'→Q (.int i) H')→spNumber vs H Q E'
theorem yT (F:Fun K "_law_number" "_law_number" J9 f fd) (c:Cs K mg ad):FnOk P w K mg base CX0 1 f fd ["_law_more"] spNumber:=by
 refine F.ok Vf (fun vs H Q E h=>?_) (fun cdv A outer s H vs Q E hr h=>?_)
 ·obtain ⟨m,rfl,_⟩:=h;rfl
 obtain ⟨m,rfl,hm0,hm1,q⟩:=h;refine ⟨_,(qc (pst 1 Vf.nd (qo zd (qo qP (pv 0) (qo qA (qo Ji qd (qo Xo qd qd)) qd)) (qo Xo qd qd)))
   (qf (qr (pix K (qJ (qa (qo qP (qo zQ (pv 0) qd) qd) (qa (qo zd (qo qP (qo zQ (pv 0) qd) qd) qd) (qa (pv 1) (qa (pix K (qJ (qa (qo Xo qd qd) (qa (qo zd qd (qo Xo qd qd)) (qa qd qb)))) (qo qP (qo zQ (pv 0) qd) qd)) qb))))) (qo qP (pv 0) qd))))),?_⟩
 have cp:qlt 10 12:=⟨O0,O0,O0⟩;have e12:(10:Int) ^ Int.toNat 12=1000000000000:=∅;refine ⟨_,rfl,_,_,rfl,rfl,cp,_,_,rfl,rfl,.inl ⟨O0,O0⟩,.inl ⟨_,_,rfl,rfl,_,_,rfl,rfl,(show (0:Int)<2*10 ^ Int.toNat 12+1 by rw [e12];decide),_,_,rfl,rfl,cp,_,_,rfl,rfl,?_⟩⟩
 have c8:qhy m 8:=⟨O0,O0⟩;refine ⟨_,rfl,_,_,rfl,rfl,c8,_,_,rfl,rfl,(show (0:Int)<10 from O0),_,rfl,_,_,rfl,rfl,c8,_,_,rfl,rfl,(show (0:Int)<2000 from O0),_,_,rfl,rfl,_,rfl,?_⟩;refine ⟨_,_,rfl,rfl,cp,_,_,rfl,rfl,cp,_,_,rfl,rfl,(O0:3≤Af),fun p1 hp1=>?_⟩;rw [e12];have n1:Tre.jP 1000000000000=true:=O0;have n2:Tre.jP (0 - 1000000000000)=true:=O0;have n3:Tre.jP 0=true:=O0;obtain ⟨v4,h4,i4,rfl,k4⟩:=VZ (xs:=[V.int 1000000000000,V.int (0 - 1000000000000),V.int 0]) (i:=m / 8 % 3) (p:=fun v=>∃ i,v= .int i∧Tre.jP i=true) (by
  simp only [Ap,A2,or_false];rintro x (rfl | rfl | rfl)
  ·exact ⟨_,rfl,n1⟩
  ·exact ⟨_,rfl,n2⟩
  ·exact ⟨_,rfl,n3⟩) (Be _ O0) (A9 _ O0)
 refine ⟨_,rfl,_,_,rfl,rfl,c8,_,_,rfl,rfl,(show (0:Int)<3 from O0),ixL (SqL.of upd_same) h4 ⟨(O0:4≤Af),fun p2 hp2=>?_⟩⟩;have a1:=Be (m / 8) (show (10:Int)≠0 from O0);have a2:=A9 (m / 8) (show (0:Int)<10 from O0);have b1:=Be (m / 8) (show (2000:Int)≠0 from O0);have b2:=A9 (m / 8) (show (0:Int)<2000 from O0);have d1:=Be m (show (2*1000000000000+1:Int)≠0 from O0);have d2:=A9 m (show (0:Int)<2*1000000000000+1 from O0);obtain ⟨v,h,i,rfl,k⟩:=VZ (xs:=[V.int (m / 8 % 10),V.int (m / 8 % 2000 - 1000),V.int (m % (2*1000000000000+1) - 1000000000000),V.int i4]) (i:=m % 4) (p:=fun v=>∃ i,v= .int i∧Tre.jP i=true) (by
  simp only [Ap,A2,or_false];rintro x (rfl | rfl | rfl | rfl)
  ·exact ⟨_,rfl,num_of ⋯ ⋯⟩
  ·exact ⟨_,rfl,num_of ⋯ ⋯⟩
  ·exact ⟨_,rfl,num_of ⋯ ⋯⟩
  ·exact ⟨_,rfl,k4⟩) (Be _ O0) (A9 _ O0)
 exact ⟨_,rfl,_,_,rfl,rfl,(show (0:Int)<4 from O0),ixL (SqL.of upd_same) h (q i _ k ((qh hp1 _).trans (qh hp2 _)))⟩
end
end Mine
namespace Mine
open PySem L2 Nam
section
variable {P:Program} {w:World} {K:Frag} {mg:Str→Option Ab} {base:Heap} {f:Ac} {fd:FuncData} {ad:Ad}
theorem qeu {i:Int} (h0:0≤i) (h1:i<26):atI (Str.ofString "abcdefghijklmnopqrstuvwxyz").cps.toList i=some (97+i.toNat):=by
 have e:(Str.ofString "abcdefghijklmnopqrstuvwxyz").cps.toList=(List.range 26).map fun k=>97+k:=∅;have ek:i=((i.toNat:Nat):Int):=⋯;have hk:i.toNat<26:=⋯;rw [e];have q:atI ((List.range 26).map fun k=>97+k) ((i.toNat:Nat):Int)=some (97+i.toNat):=ql (by rw [Bq,List.getElem?_range hk];rfl)
 rw [← ek] at q;exact q
def cw (m:Int) (k:Nat):Nat:=97+((m / 64+5*(k:Int)) % 26).toNat
def gw (m:Int) (k:Nat):Nat:=97+((m / 2048+7*(k:Int)) % 26).toNat
theorem qjv (m:Int) (k:Nat):low (cw m k)=true:=by
 have e0:=Be (m / 64+5*(k:Int)) (show (26:Int)≠0 from O0);have e1:=A9 (m / 64+5*(k:Int)) (show (0:Int)<26 from O0);unfold low cw;rw [An ⋯,An ⋯];rfl
theorem qjq (m:Int) (k:Nat):low (gw m k)=true:=by
 have e0:=Be (m / 2048+7*(k:Int)) (show (26:Int)≠0 from O0);have e1:=A9 (m / 2048+7*(k:Int)) (show (0:Int)<26 from O0);unfold low gw;rw [An ⋯,An ⋯];rfl
theorem qjr (m:Int) (a b:Nat) (ha:a<8) (hb:b<8) (h:gw m a=gw m b):a=b:=by
 unfold gw at h;omega
theorem yo (xs:List V) (n:Int) (k:Nat) (h:n=(k:Int)):jf xs none (some n)=xs.take k:=by
 subst h;unfold jf;rw [HT.sIx_nat,HT.sIx_none,Nat.sub_zero,List.drop_zero,List.take_eq_take_iff];omega
structure Nms (l:List Str):Prop where
 len:l.length=8
 good:∀ x∈l,Tre.qG x=true
 nd:l.Nodup
inductive spNames (vs:List V) (H:Hp) (Q:VK) (E':XK):Prop
 | mk:∀ (m:Int),(vs=[.int m,.int 8])→(0≤m)→(m<2147483647)→(∀ (l:List Str) (p:Ac) (H':Hp),Nms l→qy H H'→H' p=some (.lst (l.map V.str))→Q (.ref p) H')→spNames vs H Q E'
inductive Iv_TreL_0 (c:Cs K mg ad) (m:Int) (H':Hp) (pw:Ac) (cs:List Nat) (pm:Ac) (j:Nat) (z:Nat) (i:Nat) (σ:St) (H2:Hp):Prop
 | mk:∀ (ws:List Nat) (o6:Option V),(σ=[some (.int m),some (.int 8),some (.str (Str.ofString "abcdefghijklmnopqrstuvwxyz")),some (.int (1+m % 8)),some (.ref pw),some (.ref pm),o6])→(qy H' H2)→(H2 pw=some (.lst (ws.map fun c=>V.str (one c))))→(H2 pm=some (.lst ((List.range i).map fun k=>V.str (wrd ((cs.set j (gw m k)).take z)))))→(ws.length=8)→(∀ x,ws.set j x=cs.set j x)→Iv_TreL_0 c m H' pw cs pm j z i σ H2
theorem Xu (F:Fun K "_law_names" "_law_names" Jb f fd) (c:Cs K mg ad):FnOk P w K mg base CX0 1 f fd ["_law_cell","_law_many"] spNames:=by
 refine F.ok jq (fun vs H Q E h=>?_) (fun cdv A outer s H vs Q E hr h=>?_)
 ·obtain ⟨m,rfl,_⟩:=h;rfl
 obtain ⟨m,rfl,hm0,hm1,q⟩:=h;refine ⟨_,(qc (pst 2 jq.nd qg)
   (qc (pst 3 jq.nd (qo qA qd (qo qP (pv 0) qd)))
   (qc (pst 4 jq.nd (jB (sc:=qj Jb) (NX:=["_law_cell","_law_many","_law_letters","_law_size","_law_word","_law_made","_law_k"]) (N:=["_law_k","_law_letters","_law_cell"]) (js:=[none,some 2,some 0]) (ja rfl c.range_ (qa qd qb)) (fun _ _ _ _ _=>(zy (i:=0) (show (["_law_k","_law_letters","_law_cell"]:List Str).Nodup from ∅) rfl (Or.inl rfl))) (fun _ _ _ _ _=>jN) (fun _ _ _ _ _=>(pix K (pv 1) (qo qP (qo qA (qo zQ (pv 2) qd) (qo Ji qd (pv 0))) qd))) (zX rfl) ⟨∅,rfl,∅,∅,rfl,∅⟩))
   (qc (qD (qq qT (qo qP (qo zQ (pv 0) qd) qd) qd (qw _)) (qf (qr (jB (sc:=qj Jb) (NX:=["_law_cell","_law_many","_law_letters","_law_size","_law_word","_law_made","_law_k"]) (N:=["_law_k","_law_word"]) (js:=[none,some 4]) (ja rfl c.range_ (qa (pv 1) qb)) (fun _ _ _ _ _=>(zy (i:=0) (show (["_law_k","_law_word"]:List Str).Nodup from ∅) rfl (Or.inl rfl))) (fun _ _ _ _ _=>jN) (fun _ _ _ _ _=>(vw (K:=K) rfl Cg Dp Dq (yf (K:=K) rfl) qg (qa (zV (wQ (K:=K) rfl) (pv 1) jM (ju (qo qA (pv 0) qd))) qb))) (zX rfl) ⟨∅,rfl,∅,∅,rfl,∅⟩))) qt)
   (qc (pst 5 jq.nd (qJ qb))
   (qc (JO C3 rfl (ja rfl c.range_ (qa (pv 1) qb)) (pgn 6 jq.nd) (qc (qi0 (pix K (pv 2) (qo qP (qo qA (qo zQ (pv 0) qd) (qo Ji qd (pv 6))) qd)) (qi3 (pv 4) (qo qP (qo zQ (pv 0) qd) (pv 3)) qdo))
   (qf (zP (vw (K:=K) rfl By Ck Cl jG (pv 5) (qa (vw (K:=K) rfl Cg Dp Dq (yf (K:=K) rfl) qg (qa (zV (wQ (K:=K) rfl) (pv 4) jM (ju (pv 3))) qb)) qb))))))
   (qf (qr (pv 5))))))))),?_⟩
 refine ⟨_,rfl,_,_,rfl,rfl,(show (0:Int)<8 from O0),.inl ⟨_,_,rfl,rfl,?_⟩⟩;have lone:∀ (l:List Nat),l.map (fun c=>V.str (one c))=(l.map one).map V.str:=fun l=>by rw [Bv];rfl
 refine ⟨_,rfl,O0,O0,ji 8 (fun i ys H'=>H'=H∧ys=(((List.range i).map (cw m)).map fun c=>V.str (one c))) ⟨rfl,rfl⟩ (fun i ys H' h=>?_) O0 (fun i ys H' hi h=>?_) (fun ys H' h=>?_)⟩
 ·rw [h.2,Ah,Ah,Ew];exact Ax _
 ·obtain ⟨rfl,rfl⟩:=h;refine ⟨hi,fun v H2 yl=>?_⟩;obtain ⟨rfl,rfl⟩:=yl;have e0:=Be (m / 64+5*(0+(i:Int))) (show (26:Int)≠0 from O0);have e1:=A9 (m / 64+5*(0+(i:Int))) (show (0:Int)<26 from O0);refine ⟨_,rfl,_,rfl,_,_,rfl,rfl,⟨O0,O0⟩,_,rfl,_,_,rfl,rfl,.inl ⟨O0,O0⟩,.inl ⟨_,_,rfl,rfl,_,_,rfl,rfl,(show (0:Int)<26 from O0),.inr (.inr ⟨_,_,_,rfl,rfl,∅,qeu e0 e1,rfl,?_⟩)⟩⟩;rw [List.range_succ,A1,A1];have e2:cw m i=97+((m / 64+5*(0+(i:Int))) % 26).toNat:=by unfold cw;rw [Int.zero_add]
  simp only [As,Cd,e2];rfl
 ·obtain ⟨rfl,rfl⟩:=h;refine ⟨Ax _,fun pw hpw=>?_⟩;have g0:=qh hpw (.lst ((((List.range 8).map (cw m)).map fun c=>V.str (one c))));have hw0:upd H' pw (.lst ((((List.range 8).map (cw m)).map fun c=>V.str (one c)))) pw=some (.lst ((((List.range 8).map (cw m)).map fun c=>V.str (one c)))):=upd_same;generalize upd H' pw (.lst ((((List.range 8).map (cw m)).map fun c=>V.str (one c))))=H1 at g0 hw0 ⊢;have hcl:((List.range 8).map (cw m)).length=8:=by rw [Ah,Ew]
  have hlow:((List.range 8).map (cw m)).all low=true:=by
   rw [Dm];exact A4.mpr fun k _=>qjv m k
  generalize (List.range 8).map (cw m)=cs at hw0 hcl hlow ⊢;have z0:=Be m (show (8:Int)≠0 from O0);have z1:=A9 m (show (0:Int)<8 from O0);refine ⟨_,rfl,_,_,rfl,rfl,⟨O0,O0⟩,_,_,rfl,rfl,(show (0:Int)<4 from O0),rfl,_,rfl,?_⟩;refine w6 (fun _=>?_) (fun _=>?_)
  ·refine ⟨_,rfl,8,rfl,O0,O0,ji 8 (fun i ys H'=>qy H1 H'∧ys=((List.range i).map fun k=>V.str (wrd (cs.take (k+1))))) ⟨qy.refl _,rfl⟩ (fun i ys H' h=>?_) O0 (fun i ys H2 hi h=>?_) (fun ys H2 h=>?_)⟩
   ·rw [h.2,Ah,Ew];exact Ax _
   ·obtain ⟨g2,rfl⟩:=h;refine ⟨hi,fun v H3 yl=>?_⟩;obtain ⟨rfl,rfl⟩:=yl;refine ⟨rfl,_,rfl,_,rfl,.inl ⟨_,_,rfl,rfl,_,rfl,.inl ⟨pw,_,rfl,SqL.of (g2 _ _ hw0),fun p hp=>⟨_,p,(cs.take (i+1)).map one,rfl,rfl,SqL.of ?_,?_,g2.trans (qh hp _),?_⟩⟩⟩⟩
    ·rw [upd_same,yo _ _ (i+1) ⋯,← lone,List.map_take]
    ·rw [Zs];have:=Bz (i+1) cs;have e:(Str.ofString "").length=0:=∅;rw [e,Nat.mul_zero];omega
    ·rw [ZH,List.range_succ,A1];rfl
   ·obtain ⟨g2,rfl⟩:=h;refine ⟨Ax _,fun D hD=>q ((List.range 8).map fun k=>wrd (cs.take (k+1))) D _ ⟨by simp,fun x hx=>?_,qj3 cs hcl⟩ ((g0.trans g2).trans (qh hD _)) (by rw [upd_same,Bv];rfl)⟩
    obtain ⟨k,hk,rfl⟩:=Bo.mp hx;have hk':=Dj.mp hk;refine ZE (by rw [B4];omega) (by rw [B4];omega) (A4.mpr fun c hc=>A4.mp hlow c (Ce hc))
  ·refine ⟨(O0:0≤Af),fun pm hpm=>?_⟩;have gm:=qh hpm (.lst []);have nwm:pw≠pm:=qC hw0 hpm;have hpw0:H' pw=none:=hpw;refine ⟨_,rfl,8,rfl,O0,O0,?_⟩;have j0:=Be (m / 8) (show (1+m % 8:Int)≠0 from ⋯);have j1:=A9 (m / 8) (show (0:Int)<1+m % 8 from ⋯);generalize hj:(m / 8 % (1+m % 8)).toNat=j;generalize hz:(1+m % 8).toNat=z;have hjz:j<z:=⋯;have hz8:z≤8:=⋯;refine qe9 8 (Iv_TreL_0 c m H' pw cs pm j z) ?_ (fun i σ H2 hi h=>?_) (fun σ H2 h=>?_)
   ·exact ⟨cs,none,rfl,g0.trans gm,gm _ _ hw0,upd_same,hcl,fun _=>rfl⟩
   ·obtain ⟨ws,o6,rfl,g2,hw2,hm2,hwl,hws⟩:=h;refine ⟨hi,fun v H3 yl=>?_⟩;obtain ⟨rfl,rfl⟩:=yl;have e0:=Be (m / 2048+7*(0+(i:Int))) (show (26:Int)≠0 from O0);have e1:=A9 (m / 2048+7*(0+(i:Int))) (show (0:Int)<26 from O0);have eg:gw m i=97+((m / 2048+7*(0+(i:Int))) % 26).toNat:=by unfold gw;rw [Int.zero_add]
    have hix:ixN (ws.map fun c=>V.str (one c)).length (m / 8 % (1+m % 8))=some j:=by
     unfold ixN;rw [Ah,hwl,if_pos j0,if_pos ⋯,hj]
    refine ⟨_,rfl,_,rfl,_,_,rfl,rfl,⟨O0,O0⟩,_,rfl,_,_,rfl,rfl,.inl ⟨O0,O0⟩,.inl ⟨_,_,rfl,rfl,_,_,rfl,rfl,(show (0:Int)<26 from O0),.inr (.inr ⟨_,_,_,rfl,rfl,∅,qeu e0 e1,?_⟩)⟩⟩;refine ⟨_,rfl,_,rfl,_,_,rfl,rfl,⟨O0,O0⟩,_,rfl,_,_,rfl,rfl,(show (0:Int)<1+m % 8 from ⋯),pw,_,_,j,rfl,rfl,hw2,hix,?_⟩;rw [← eg];have es:(ws.map fun c=>V.str (one c)).set j (.str (one (gw m i)))=(cs.set j (gw m i)).map fun c=>V.str (one c):=by rw [← hws,List.map_set]
    refine ⟨_,rfl,.inl ⟨rfl,_,SqL.of (by rw [qu (Ne.symm nwm)];exact hm2)⟩,arg1 ⟨rfl,_,rfl,_,rfl,_,rfl,.inl ⟨pw,(cs.set j (gw m i)).map (fun c=>V.str (one c)),rfl,SqL.of ?_,fun p hp=>?_⟩⟩⟩
    ·rw [upd_same];exact congrArg (fun l=>some (HO.lst l)) es
    ·have gw2:=zo g2 hpw (.lst ((ws.map fun c=>V.str (one c)).set j (.str ⟨#[gw m i]⟩)));have hw3:upd H3 pw (.lst ((ws.map fun c=>V.str (one c)).set j (.str ⟨#[gw m i]⟩))) pw=some (.lst ((cs.set j (gw m i)).map fun c=>V.str (one c))):=by rw [upd_same];exact congrArg (fun l=>some (HO.lst l)) es
     have hm3:upd H3 pw (.lst ((ws.map fun c=>V.str (one c)).set j (.str ⟨#[gw m i]⟩))) pm=some (.lst ((List.range i).map fun k=>V.str (wrd ((cs.set j (gw m k)).take z)))):=by rw [qu (Ne.symm nwm)];exact hm2
     change upd H3 pw (.lst ((ws.map fun c=>V.str (one c)).set j (.str ⟨#[gw m i]⟩))) p=none at hp
     generalize upd H3 pw (.lst ((ws.map fun c=>V.str (one c)).set j (.str ⟨#[gw m i]⟩)))=H4 at hp gw2 hw3 hm3 ⊢;have gp:=qh hp (.lst (jf ((cs.set j (gw m i)).map fun c=>V.str (one c)) none (some (1+m % 8))));refine ⟨_,p,((cs.set j (gw m i)).take z).map one,rfl,rfl,SqL.of ?_,?_,pm,_,_,rfl,rfl,gp _ _ hm3,?_,?_⟩
     ·rw [upd_same,yo _ _ z ⋯,← lone,List.map_take]
     ·rw [Zs];have:=Bz z (cs.set j (gw m i));have e:(Str.ofString "").length=0:=∅;rw [e,Nat.mul_zero];omega
     ·rw [Ah,Ew];exact Nat.lt_trans hi O0
     ·refine ⟨cs.set j (gw m i),_,rfl,zo (gw2.trans gp) (g0.free hpm) _,?_,?_,by rw [Ds];exact hcl,fun x=>by rw [List.set_set]⟩
      ·rw [qu nwm];exact gp _ _ hw3
      ·rw [upd_same,ZH,List.range_succ,A1];rfl
   ·obtain ⟨ws,o6,rfl,g2,hw2,hm2,hwl,hws⟩:=h;refine ⟨Ax _,_,rfl,q ((List.range 8).map fun k=>wrd ((cs.set j (gw m k)).take z)) pm _ ⟨by simp,fun x hx=>?_,qlr cs j z (gw m) hjz ⋯ fun a b ha hb h=>qjr m a b ha hb h⟩ g2 (by rw [hm2,Bv];rfl)⟩
    obtain ⟨k,hk,rfl⟩:=Bo.mp hx;refine ZE (by rw [B4,Ds];omega) (by rw [B4,Ds];omega) (A4.mpr fun c hc=>?_)
    rcases List.mem_or_eq_of_mem_set (Ce hc) with hc | rfl
    ·exact A4.mp hlow c hc
    ·exact qjq m k
end
end Mine
namespace Mine
open PySem L2
section
variable {P:Program} {w:World} {K:Frag} {mg:Str→Option Ab} {base:Heap} {f:Ac} {fd:FuncData} {ad:Ad}
inductive spNeed (K:Frag) (vs:List V) (H:Hp) (Q:VK) (E':XK):Prop
 | mk:∀ x d,(vs=[x])→(Rep K H x d)→(Tre.fit d=true)→(Tre.zJ d=true)→(∀ H',qy H H'→Q .non H')→spNeed K vs H Q E'
theorem wW (F:Fun K "need_program" "need_program" Jv f fd) (c:Cs K mg ad) (d_is_program:Def P w K mg base 5 "is_program" ["thing"] (spD K Tre.zJ)):FnOk P w K mg base CX0 6 f fd ["thing"] (spNeed K):=by
 refine F.ok wR (fun vs H Q E h=>?_) (fun cdv A outer s H vs Q E hr h=>?_)
 ·obtain ⟨x,d,rfl,_⟩:=h;rfl
 obtain ⟨x,d,rfl,hk,ft,hp,q⟩:=h;refine ⟨_,(qf (qD (jd (zt (pdf d_is_program (qa (pv 0) qb)))) (qf Yx) qt)),?_⟩;exact ⟨_,rfl,_,_,rfl,hk,ft,fun H1 g=>⟨_,rfl,zh (show (!Tre.zJ d)=false by rw [hp];rfl) (q H1 g)⟩⟩
end
end Mine
namespace Tre
open PySem
mutual
def inL (L:List Str):Aa→Bool
 | .str x=>L.contains x
 | .tuple xs=>qey L xs
 | .list _=>false
 | .dict _=>false
 | _=>true
def qey (L:List Str):List Aa→Bool
 | []=>true
 | x::r=>inL L x&&qey L r
end
def words:List Str:=["number","name","two","fun","loop","call","step","main","let","set","do","if","while","hand","back","fault","try","great","kind","any","unset","anya","+","-","*","<","="]
structure Ft (names:List Str) (d:Aa):Prop where
 fit:Tre.fit d=true
 ins:inL (words++names) d=true
structure Fts (names:List Str) (ds:List Aa):Prop where
 fit:Tre.Jj ds=true
 ins:qey (words++names) ds=true
section
variable {names:List Str}
theorem Fts.nil:Fts names []:=⟨rfl,rfl⟩
theorem Fts.cons {d:Aa} {r:List Aa} (h:Ft names d) (hr:Fts names r):Fts names (d::r):=⟨by rw [Jj,h.fit,hr.fit];rfl,by rw [qey,h.ins,hr.ins];rfl⟩
theorem Fts.snoc:∀ {xs:List Aa} {x:Aa},Fts names xs→Ft names x→Fts names (xs++[x])
 | [],x,_,h=> .cons h .nil
 | y::r,x,h,h'=>by
  have a:=h.fit;have b:=h.ins;rw [Jj,Al] at a;rw [qey,Al] at b;exact .cons ⟨a.1,b.1⟩ (Fts.snoc ⟨a.2,b.2⟩ h')
theorem Fts.tup {l:List Aa} (h:Fts names l):Ft names (.tuple l):=⟨by rw [Tre.fit];exact h.fit,by rw [inL];exact h.ins⟩
theorem Fts.of:∀ {xs:List Aa},(∀ x∈xs,Ft names x)→Fts names xs
 | [],_=> .nil
 | y::r,h=> .cons (h y Au) (Fts.of fun x hx=>h x (Ao _ hx))
theorem Ft.int (i:Int):Ft names (.int i):=⟨rfl,rfl⟩
theorem Ft.word {x:Str} (h:(words.contains x&&decide (x.length≤1000000))=true):Ft names (.str x):=by
 rw [Al] at h;refine ⟨h.2,?_⟩;rw [inL,Cn];exact B1 _ (Cn.mp h.1)
theorem Ft.name {x:Str} (h:qG x=true) (hx:x∈words++names):Ft names (.str x):=by
 unfold qG at h;rw [Al,Al] at h;have:=A3 h.1.2;refine ⟨An ⋯,?_⟩;rw [inL,Cn];exact hx
end
end Tre
namespace Mine
open PySem L2
structure DIn (K:Frag) (H:Hp) (st a nm:Ac) (ns:List Int) (names:List Str) (k l:Int):Prop where
 dict:H st=some (.dK (stK a k l nm))
 cells:SqL K H a (ns.map V.int)
 nms:SqL K H nm (names.map V.str)
 good:Nms names
section
variable {P:Program} {w:World} {K:Frag} {mg:Str→Option Ab} {base:Heap} {f:Ac} {fd:FuncData} {ad:Ad}
theorem DIn.same {H H':Hp} {st a nm:Ac} {ns:List Int} {names:List Str} {k l:Int} (h:DIn K H st a nm ns names k l) (g:qy H H'):DIn K H' st a nm ns names k l:=⟨g _ _ h.dict,g.seq h.cells,g.seq h.nms,h.good⟩
theorem DIn.put {H:Hp} {st a nm:Ac} {ns:List Int} {names:List Str} {k l k' l':Int} (h:DIn K H st a nm ns names k l):DIn K (upd H st (.dK (stK a k' l' nm))) st a nm ns names k' l':=⟨upd_same,(Stay.put h.dict).sqL h.cells,(Stay.put h.dict).sqL h.nms,h.good⟩
inductive spStm (K:Frag) (n:Nat) (vs:List V) (H:Hp) (Q:VK) (E':XK):Prop
 | mk:∀ st a nm ns names k l deep may,(vs=[.ref st,.int deep,.bl may])→(DIn K H st a nm ns names k l)→(Bud.PS n deep k l)→(∀ H' x d (s t:Nat) k' l',Stay st H H'→DIn K H' st a nm ns names k' l'→Rep K H' x d→Tre.Ft names d→Tre.Pt d "statement" may s t→Bud.BS n k l s t k' l'→Q x H')→spStm K n vs H Q E'
inductive spTrm (K:Frag) (n:Nat) (vs:List V) (H:Hp) (Q:VK) (E':XK):Prop
 | mk:∀ st a nm ns names k l deep,(vs=[.ref st,.int deep])→(DIn K H st a nm ns names k l)→(Bud.PT n deep k l)→(∀ H' x d (s t:Nat) k' l',Stay st H H'→DIn K H' st a nm ns names k' l'→Rep K H' x d→Tre.Ft names d→(∀ hands,Tre.Pt d "term" hands s t)→Bud.BT n deep k l s t k' l'→Q x H')→spTrm K n vs H Q E'
inductive spBdy (K:Frag) (n:Nat) (vs:List V) (H:Hp) (Q:VK) (E':XK):Prop
 | mk:∀ st a nm ns names k l deep may,(vs=[.ref st,.int deep,.bl may])→(DIn K H st a nm ns names k l)→(Bud.PB n deep k l)→(∀ H' x ds (s t:Nat) k' l',Stay st H H'→DIn K H' st a nm ns names k' l'→Rep K H' x (.tuple ds)→Tre.Fts names ds→Tre.Bd ds may s t→Bud.BB n k l s t k' l'→Q x H')→spBdy K n vs H Q E'
section
variable {n i j v:Nat} {σ:St} {H:Hp} {Q:VK} {st a nm:Ac} {ns:List Int} {names:List Str} {k l deep:Int} {may:Bool}
theorem jS (hi:σ[i]?=some (some (.ref st))) (hj:σ[j]?=some (some (.int deep))) (di:DIn K H st a nm ns names k l) (p:Bud.PT n (deep - 1) k l) (h:∀ H' x d (s t:Nat) k' l',Stay st H H'→DIn K H' st a nm ns names k' l'→Rep K H' x d→Tre.Ft names d→(∀ hands,Tre.Pt d "term" hands s t)→Bud.BT n (deep - 1) k l s t k' l'→Q x H'):
  qI (spTrm K n) [] E0 (qe (qk i) (qe (tOp (rI0 fun i j=>V.int (i - j)) (qk j) (tC (V.int 1))) qx)) σ H Q:=⟨_,hi,_,hj,_,_,rfl,rfl,st,a,nm,ns,names,k,l,_,rfl,di,p,h⟩
theorem qih (di:DIn K H st a nm ns names k l) (p:Bud.PB n deep k l) (h:∀ H' x ds (s t:Nat) k' l',Stay st H H'→DIn K H' st a nm ns names k' l'→Rep K H' x (.tuple ds)→Tre.Fts names ds→Tre.Bd ds may s t→Bud.BB n k l s t k' l'→Q x H'):spBdy K n [.ref st,.int deep,.bl may] H Q E0:=⟨st,a,nm,ns,names,k,l,_,may,rfl,di,p,h⟩
theorem Ww (hi:σ[i]?=some (some (.ref st))) (hj:σ[j]?=some (some (.int deep))) (hv:σ[v]?=some (some (.bl may))) (di:DIn K H st a nm ns names k l) (p:Bud.PB n (deep - 1) k l) (h:∀ H' x ds (s t:Nat) k' l',Stay st H H'→DIn K H' st a nm ns names k' l'→Rep K H' x (.tuple ds)→Tre.Fts names ds→Tre.Bd ds may s t→Bud.BB n k l s t k' l'→Q x H'):
  qI (spBdy K n) [] E0 (qe (qk i) (qe (tOp (rI0 fun i j=>V.int (i - j)) (qk j) (tC (V.int 1))) (qe (qk v) qx))) σ H Q:=⟨_,hi,_,hj,_,_,rfl,rfl,_,hv,qih di p h⟩
theorem qig (di:DIn K H st a nm ns names k l) (p:Bud.PS n deep k l) (h:∀ H' x d (s t:Nat) k' l',Stay st H H'→DIn K H' st a nm ns names k' l'→Rep K H' x d→Tre.Ft names d→Tre.Pt d "statement" may s t→Bud.BS n k l s t k' l'→Q x H'):spStm K n [.ref st,.int deep,.bl may] H Q E0:=⟨st,a,nm,ns,names,k,l,_,may,rfl,di,p,h⟩
end
inductive Iv_TreN_0 (K:W.Frag) (n:Nat) (H:Hp) (st:Ac) (a:Ac) (nm:Ac) (ns:List Int) (names:List Str) (k:Int) (l:Int) (may:Bool) (i:Nat) (ys:List V) (H':Hp):Prop
 | mk:∀ (ds:List Aa) (k' l':Int) (s t:Nat),(Stay st H H')→(DIn K H' st a nm ns names k' l')→(Reps K H' ys ds)→(ds.length=i)→(Tre.Fts names ds)→(Tre.Ptl (ds.map fun x=>(x,("statement":Str))) may s t)→(Bud.BI n k l i s t k' l')→Iv_TreN_0 K n H st a nm ns names k l may i ys H'
theorem wI (F:Fun K "_law_body" "_law_body" Jx f fd) (c:Cs K mg ad) (n:Nat) (d_law_next:Def P w K mg base 2 "_law_next" ["_law_state"] (spNext K)) (d_law_statement:Def P w K mg base (4*n+5) "_law_statement" ["_law_state","_law_deep","_law_may_hand"] (spStm K n)):FnOk P w K mg base CX0 (4*n+6) f fd ["_law_state","_law_deep","_law_may_hand"] (spBdy K n):=by
 refine F.ok (k:=4*n+5) Zj (fun vs H Q E h=>?_) (fun cdv A outer s H vs Q E hr h=>?_)
 ·obtain ⟨st,a,nm,ns,names,k,l,deep,may,rfl,_⟩:=h;rfl
 obtain ⟨st,a,nm,ns,names,k,l,deep,may,rfl,di,pp,q⟩:=h;refine ⟨_,(qf (qr (qM (jJ (K:=K) rfl) (by rfl) c.tuple_ zK (qa (jB (sc:=qj Jx) (NX:=["_law_state","_law_deep","_law_may_hand"]) (N:=["_law_turn","_law_state","_law_deep","_law_may_hand"]) (js:=[none,some 0,some 1,some 2]) (ja rfl c.range_ (qa (qo qP (pdf d_law_next (qa (pv 0) qb)) qd) qb)) (fun _ _ _ _ _=>(zy (i:=0) (show (["_law_turn","_law_state","_law_deep","_law_may_hand"]:List Str).Nodup from ∅) rfl (Or.inl rfl))) (fun _ _ _ _ _=>jN) (fun _ _ _ _ _=>(pdf d_law_statement (qa (pv 1) (qa (pv 2) (qa (pv 3) qb))))) (zX rfl) ⟨∅,rfl,∅,∅,rfl,∅⟩) qb)))),?_⟩
 refine ⟨_,rfl,st,a,nm,ns,k,l,rfl,di.dict,di.cells,pp.2.1,(by have:=pp.2.2;omega),fun z H1 hz0 hz1 e1=>?_⟩
 have z0:=Be z (show (4:Int)≠0 from O0);have z1:=A9 z (show (0:Int)<4 from O0);have di1:DIn K H1 st a nm ns names (k+1) l:=e1▸di.put;have st1:Stay st H H1:=e1▸Stay.put di.dict;refine ⟨_,_,rfl,rfl,(show (0:Int)<4 from O0),_,rfl,⋯,⋯,?_⟩;generalize hc:(z % 4).toNat=cnt;have hc3:cnt≤3:=⋯;refine ji cnt (Iv_TreN_0 K n H st a nm ns names k l may) ?_ (fun i ys H' h=>?_) (Aw hc3 O0) (fun i ys H' hi h=>?_) (fun ys H' h=>?_)
 ·exact ⟨[],k+1,l,0,0,st1,di1,.nil,rfl,.nil,.nil,.nil⟩
 ·obtain ⟨ds,k',l',s,t,_,_,rs,hl,_⟩:=h;have:=rs.length;omega
 ·obtain ⟨ds,k',l',s,t,sy,di2,rs,hl,hf,pt,b⟩:=h;refine ⟨hi,fun v H3 yl=>?_⟩;obtain ⟨rfl,rfl⟩:=yl;refine ⟨_,rfl,_,rfl,_,rfl,qig di2 (b.pre pp ⋯) fun H4 x d s2 t2 k2 l2 sy4 di4 rx fx px b2=>?_⟩;refine ⟨ds++[d],k2,l2,s+s2,max t t2,sy.trans sy4,di4,(rs.stay sy4).append (.cons rx .nil),by rw [Ak,hl];rfl,hf.snoc fx,?_,b.snoc b2⟩
  rw [A1];exact pt.append (Tre.jO px)
 ·obtain ⟨ds,k',l',s,t,sy,di2,rs,hl,hf,pt,b⟩:=h;refine ⟨Ax _,fun D hD=>?_⟩;refine ⟨D,ys,rfl,.inl ⟨SqL.of upd_same,fun p hp=>?_⟩⟩;have g:=(qh hD (.lst ys)).trans (qh hp (.tup ys));exact q _ _ ds s t k' l' (sy.then g) (di2.same g) (.tup (SqT.of upd_same) (rs.same g)) hf ⟨⋯,pt⟩ (b.out hc3)
theorem qcf {names:List Str} (g:Nms names) {lo hi:Int} (h0:0≤lo) (h1:lo≤hi∧hi≤lo+3):∃ cut:List Str,jf (names.map V.str) (some lo) (some hi)=cut.map V.str∧Tre.areNames (.tuple (cut.map PyData.str))=true∧∀ x∈cut,Tre.qG x=true∧x∈names:=by
 obtain ⟨i,rfl⟩:∃ i:Nat,lo=(i:Int):=⟨lo.toNat,⋯⟩;obtain ⟨j,rfl⟩:∃ j:Nat,hi=(j:Int):=⟨hi.toNat,⋯⟩;refine ⟨(names.drop (min i names.length)).take (min j names.length - min i names.length),?_,?_,fun x hx=>⟨g.good x (Ei (Ce hx)),Ei (Ce hx)⟩⟩
 ·unfold jf;rw [HT.sIx_nat,HT.sIx_nat,Ah,List.map_take,List.map_drop]
 ·have hl:((names.drop (min i names.length)).take (min j names.length - min i names.length)).length≤4:=by
   have:=Bz (min j names.length - min i names.length) (names.drop (min i names.length));omega
  have hsub:∀ x∈(names.drop (min i names.length)).take (min j names.length - min i names.length),Tre.qG x=true:=fun x hx=>g.good x (Ei (Ce hx));have hnd:((names.drop (min i names.length)).take (min j names.length - min i names.length)).Nodup:=(List.Pairwise.drop g.nd).take;generalize (names.drop (min i names.length)).take (min j names.length - min i names.length)=cut at hl hsub hnd;simp only [Tre.areNames];rw [Ah,An hl,B0,Bv,Al];refine ⟨?_,An ?_⟩
  ·rw [Dm];exact A4.mpr fun x hx=>hsub x hx
  ·have e:(Tre.txt ∘ PyData.str)=id:=rfl;rw [e,List.map_id];exact hnd
theorem qha {kd:Int} (h:¬ (kd=1∨kd=8∨kd=9)):inV (.int kd) [.int 1,.int 8,.int 9]=false:=by
 have e:∀ a:Int,¬ kd=a→eqV (.int a) (.int kd)=false:=fun a n=>Bf.mpr fun z=>n z.symm;have n1:¬ kd=1:=fun z=>h (.inl z);have n8:¬ kd=8:=fun z=>h (.inr (.inl z));have n9:¬ kd=9:=fun z=>h (.inr (.inr z));show (eqV (.int 1) (.int kd)||(eqV (.int 8) (.int kd)||(eqV (.int 9) (.int kd)||false)))=false;rw [e 1 n1,e 8 n8,e 9 n9];rfl
theorem qgh {i:Int} (h0:0≤i) (h1:i<5):∃ c,atI (Str.ofString "+-*<=").cps.toList i=some c∧(Tre.signs.any fun y=>y==(⟨#[c]⟩:Str))=true∧(Tre.words.contains (⟨#[c]⟩:Str)&&decide ((⟨#[c]⟩:Str).length≤1000000))=true:=by
 have e:(Str.ofString "+-*<=").cps.toList=[43,45,42,60,61]:=∅;rw [e];have h:i=0∨i=1∨i=2∨i=3∨i=4:=⋯;rcases h with rfl | rfl | rfl | rfl | rfl
 ·exact ⟨43,rfl,∅,∅⟩
 ·exact ⟨45,rfl,∅,∅⟩
 ·exact ⟨42,rfl,∅,∅⟩
 ·exact ⟨60,rfl,∅,∅⟩
 ·exact ⟨61,rfl,∅,∅⟩
theorem qez {i:Nat} {m kd:Int} {A B:TS} {D:Ends} {σ:St} {H:Hp} (h:σ[i]?=some (some (.int kd))) (hA:kd=m→A D σ H) (hB:¬ kd=m→B D σ H):zO (qW (tOp rEq (qk i) (tC (V.int m)))) A B D σ H:=by
 refine ⟨_,h,rfl,_,rfl,?_⟩
 by_cases e:kd=m
 ·exact zp (show decide _=true from An (congrArg V.int e)) (hA e)
 ·exact zh (show decide _=false from Ar fun z=>e (V.int.inj z)) (hB e)
theorem qhj {i:Nat} {m kd:Int} {A B:TS} {D:Ends} {σ:St} {H:Hp} (h:σ[i]?=some (some (.int kd))) (hA:kd<m→A D σ H) (hB:¬ kd<m→B D σ H):zO (qW (tOp (rI0 fun i j=>V.bl (decide (i<j))) (qk i) (tC (V.int m)))) A B D σ H:=by
 refine ⟨_,h,_,_,rfl,rfl,_,rfl,?_⟩
 by_cases e:kd<m
 ·exact zp (show decide _=true from An e) (hA e)
 ·exact zh (show decide _=false from Ar e) (hB e)
def qbl (T:Sp):TS:=zS (Jm (qe (tC (V.str "step")) (qe (qI T [] E0 (qe (qk 0) (qe (tOp (rI0 fun i j=>V.int (i - j)) (qk 1) (tC (V.int 1))) qx))) (qe (qI T [] E0 (qe (qk 0) (qe (tOp (rI0 fun i j=>V.int (i - j)) (qk 1) (tC (V.int 1))) qx))) qx))))
def qbk (K:Frag) (T:Sp):TS:=qO (zO (qW (tOp rEq (qk 3) (tC (V.int 6)))) (qO (zF (qI T [] E0 (qe (qk 0) (qe (tOp (rI0 fun i j=>V.int (i - j)) (qk 1) (tC (V.int 1))) qx))) (qE 7)) (zS (Jm (qe (tC (V.str "call")) (qe (qk 7) (qe (tCB (fun xs H Q=>∃ p ys,xs=[V.ref p]∧((SqL K H p ys∧∀ (l:Ac),H l=none→Q (V.ref l) (upd H l (HO.tup ys)))∨SqT K H p ys∧Q (V.ref p) H)) (qe (wB (qau (qe (tOp (rI (fun x j=>0<j) fun i j=>V.int (i % j)) (qk 4) (tC (V.int 5))) qx)) [none,some 0,some 1] (qE 0) Zb (qI T [] E0 (qe (qk 1) (qe (tOp (rI0 fun i j=>V.int (i - j)) (qk 2) (tC (V.int 1))) qx)))) qx)) qx)))))) zn) (qbl T)
def qbj (K:Frag) (T:Sp) (B:Sp):TS:=qO (zO (qW (tOp (rI0 fun i j=>V.bl (decide (i<j))) (qk 3) (tC (V.int 6)))) (qO (zF (tCB (fun xs H Q=>∃ p ys,xs=[V.ref p]∧((SqL K H p ys∧∀ (l:Ac),H l=none→Q (V.ref l) (upd H l (HO.tup ys)))∨SqT K H p ys∧Q (V.ref p) H)) (qe (tSl (Qn K) (qk 5) (WJ (tOp (rI (fun x j=>0<j) fun i j=>V.int (i % j)) (qk 4) (tC (V.int 5)))) (WJ (tOp zk (tOp (rI (fun x j=>0<j) fun i j=>V.int (i % j)) (qk 4) (tC (V.int 5))) (tOp (rI (fun x j=>0<j) fun i j=>V.int (i % j)) (tOp (rI qhy fun i j=>V.int (i / j)) (qk 4) (tC (V.int 5))) (tC (V.int 4)))))) qx)) (qE 6)) (zS (Jm (qe (tOp (rIx K) (jz (qe (tC (V.str "fun")) (qe (tC (V.str "loop")) qx))) (tOp (rI0 fun i j=>V.int (i - j)) (qk 3) (tC (V.int 4)))) (qe (qk 6) (qe (qI B [] E0 (qe (qk 0) (qe (tOp (rI0 fun i j=>V.int (i - j)) (qk 1) (tC (V.int 1))) (qe (tOp rEq (qk 3) (tC (V.int 5))) qx)))) qx)))))) zn) (qbk K T)
def qbi (K:Frag) (T:Sp) (B:Sp):TS:=qO (zO (qW (tOp (rI0 fun i j=>V.bl (decide (i<j))) (qk 3) (tC (V.int 4)))) (zS (Jm (qe (tC (V.str "two")) (qe (tOp (rIx K) (tC (V.str "+-*<=")) (tOp (rI (fun x j=>0<j) fun i j=>V.int (i % j)) (qk 4) (tC (V.int 5)))) (qe (qI T [] E0 (qe (qk 0) (qe (tOp (rI0 fun i j=>V.int (i - j)) (qk 1) (tC (V.int 1))) qx))) (qe (qI T [] E0 (qe (qk 0) (qe (tOp (rI0 fun i j=>V.int (i - j)) (qk 1) (tC (V.int 1))) qx))) qx)))))) zn) (qbj K T B)
def qbh (K:Frag) (T:Sp) (B:Sp):TS:=qO (zO (qW (tOp (rIn K false) (qk 3) (Jm (qe (tC (V.int 1)) (qe (tC (V.int 8)) (qe (tC (V.int 9)) qx)))))) (zS (Jm (qe (tC (V.str "name")) (qe (tOp (rIx K) (qk 5) (tOp (rI (fun x j=>0<j) fun i j=>V.int (i % j)) (qk 4) (tCB (fun xs H Q=>∃ x n,xs=[x]∧wz K x H n∧Q (V.int ↑n) H) (qe (qk 5) qx)))) qx)))) zn) (qbi K T B)
def qc6 (K:Frag) (T B:Sp):TS:=qO (zO (qW (tOp rEq (qk 3) (tC (V.int 0)))) (zS (Jm (qe (tC (V.str "number")) (qe (qI spNumber [] E0 (qe (qk 4) qx)) qx)))) zn) (qbh K T B)
inductive Iv_TreO3_0 (K:W.Frag) (H:Hp) (st:Ac) (a:Ac) (nm:Ac) (ns:List Int) (names:List Str) (k:Int) (l:Int) (n':Nat) (x1:V) (d1:Aa) (s1:Nat) (i:Nat) (ys:List V) (H':Hp):Prop
 | mk:∀ (ds:List Aa) (k' l':Int) (s t:Nat),(Stay st H H')→(DIn K H' st a nm ns names k' l')→(Reps K H' ys ds)→(Rep K H' x1 d1)→(ds.length=i)→(Tre.Fts names ds)→((∀ hands,Tre.Ptl (ds.map fun x=>(x,("term":Str))) hands s t))→(Bud.CI n' k l s1 i s t k' l')→Iv_TreO3_0 K H st a nm ns names k l n' x1 d1 s1 i ys H'
theorem V5 {H H2:Hp} {Q:VK} {n:Nat} {T B:Sp} {st a nm:Ac} {ns:List Int} {names:List Str} {k l deep z kd mo:Int} (hT:0<n→T=spTrm K (n - 1)) (hB:0<n→B=spBdy K (n - 1)) (pp:Bud.PT n deep k l)
  (q:∀ H' x d (s t:Nat) k' l',Stay st H H'→DIn K H' st a nm ns names k' l'→Rep K H' x d→Tre.Ft names d→(∀ hands,Tre.Pt d "term" hands s t)→Bud.BT n deep k l s t k' l'→Q x H')
  (di2:DIn K H2 st a nm ns names (k+1) (l - 1)) (sy2:Stay st H H2) (m0:0≤mo) (m1:mo<268435456) (hkd:0≤kd∧kd<10∧(deep<1∨l - 1<0→kd<2)):
  qc6 K T B {nx:=fun _ H'=>Q .non H',rt:=Q} [some (.ref st),some (.int deep),some (.int z),some (.int kd),some (.int mo),some (.ref nm),none,none] H2:=by
 have fin1:∀ (H':Hp) (x:V) (d:Aa),qy H2 H'→Rep K H' x d→Tre.Ft names d→(∀ hands,Tre.Pt d "term" hands 1 1)→Q x H':=fun H' x d g r ff pt=>
  q H' x d 1 1 (k+1) (l - 1) (sy2.then g) (di2.same g) r ff pt .one
 obtain ⟨kd0,kd1,kd2⟩:=hkd;refine qez rfl (fun e0=>?_) (fun e0=>?_)
 ·skip
  refine ⟨_,rfl,_,rfl,m0,m1,fun i H3 hi g=>⟨(O0:2≤Af),fun p hp=>?_⟩⟩;exact fin1 _ _ (.tuple [.str "number",.int i]) (g.trans (qh hp _)) (.tup (SqT.of upd_same) (.cons (.str _) (.cons (.int _) .nil))) (Tre.Fts.tup (.cons (.word ∅) (.cons (.int _) .nil))) fun hands=>Tre.qbu hi
 refine ⟨_,rfl,(O0:3≤Af),fun p1 hp1=>(inS (.inr (SqT.of upd_same)) rfl rfl ⟨_,rfl,?_⟩)⟩;have gp1:=qh hp1 (.tup [.int 1,.int 8,.int 9]);have di3:=di2.same gp1;have sy3:=sy2.then gp1;have fin3:∀ (H':Hp) (x:V) (d:Aa),qy (upd H2 p1 (.tup [.int 1,.int 8,.int 9])) H'→Rep K H' x d→Tre.Ft names d→(∀ hands,Tre.Pt d "term" hands 1 1)→Q x H':=fun H' x d g=>fin1 H' x d (gp1.trans g);generalize upd H2 p1 (.tup [.int 1,.int 8,.int 9])=H3 at di3 sy3 fin3 ⊢;have hnl:names.length=8:=di2.good.len
 by_cases e1:kd=1∨kd=8∨kd=9
 ·refine zp (show inV _ _=true by rcases e1 with rfl | rfl | rfl <;> decide+kernel) ?_
  obtain ⟨v,hv,x,rfl,hx,hxn⟩:=VZ (xs:=names.map V.str) (i:=mo % (((names.map V.str).length:Nat):Int)) (p:=fun v=>∃ x,v= .str x∧Tre.qG x=true∧x∈names) (fun y hy=>by
   obtain ⟨x,hx,rfl⟩:=Bo.mp hy;exact ⟨x,rfl,di2.good.good x hx,hx⟩) (Be _ (by rw [Ah,hnl];decide)) (A9 _ (by rw [Ah,hnl];decide))
  refine ⟨_,rfl,_,rfl,_,rfl,_,_,rfl,.inl ⟨_,di3.nms,rfl⟩,_,_,rfl,rfl,(show (0:Int)<(((names.map V.str).length:Nat):Int) by rw [Ah,hnl];decide),.inl ⟨_,_,_,_,rfl,rfl,di3.nms,hv,(O0:2≤Af),fun p hp=>?_⟩⟩
  exact fin3 _ _ (.tuple [.str "name",.str x]) (qh hp _) (.tup (SqT.of upd_same) (.cons (.str _) (.cons (.str _) .nil))) (Tre.Fts.tup (.cons (.word ∅) (.cons (.name hx (Bc _ hxn)) .nil))) fun hands=>Tre.qgq hx
 refine zh (show inV _ _=false from qha e1) ?_;have hn1:0<n:=by have:=pp.1;omega
 have hl1:0≤l - 1:=⋯;have hd1:1≤deep:=⋯;clear kd0 kd1 kd2 e0 e1 m0 m1;obtain ⟨n',rfl⟩:∃ n',n=n'+1:=⟨n - 1,⋯⟩;have eT:T=spTrm K n':=hT hn1;have eB:B=spBdy K n':=hB hn1;have hS:=pp.many hl1 hd1;clear hT hB hn1 pp hl1 hd1;subst eT;subst eB;refine qhj rfl (fun e4=>?_) (fun e4=>?_)
 ·skip
  obtain ⟨ch,hch,hsg,hsw⟩:=qgh (i:=mo % 5) (Be _ O0) (A9 _ O0);refine ⟨_,rfl,_,_,rfl,rfl,(show (0:Int)<5 from O0),.inr (.inr ⟨_,_,_,rfl,rfl,∅,hch,?_⟩)⟩;refine jS rfl rfl di3 hS.pt fun H4 x1 d1 s1 t1 k1 l1 sy4 di4 r1 f1 p1 b1=>?_;refine jS rfl rfl di4 (hS.pt1 b1) fun H5 x2 d2 s2 t2 k2 l2 sy5 di5 r2 f2 p2 b2=>⟨(O0:4≤Af),fun p hp=>?_⟩;have g:=qh hp (.tup [.str "two",.str ⟨#[ch]⟩,x1,x2]);refine q _ _ (.tuple [.str "two",.str ⟨#[ch]⟩,d1,d2]) (s1+s2+1) (max t1 t2+1) k2 l2 (((sy3.trans sy4).trans sy5).then g) (di5.same g) (.tup (SqT.of upd_same) (.cons (.str _) (.cons (.str _) (.cons ((r1.stay sy5).same g) (.cons (r2.same g) .nil))))) ?_ (fun hands=>Tre.qiv hsg (p1 hands) (p2 hands)) (hS.two b1 b2);exact Tre.Fts.tup (.cons (.word ∅) (.cons (.word hsw) (.cons f1 (.cons f2 .nil))))
 refine qhj rfl (fun e6=>?_) (fun e6=>?_)
 ·skip
  refine ⟨_,rfl,_,rfl,_,_,rfl,rfl,(show (0:Int)<5 from O0),_,rfl,_,rfl,_,_,rfl,rfl,(show (0:Int)<5 from O0),_,rfl,_,_,rfl,rfl,⟨O0,O0⟩,_,_,rfl,rfl,(show (0:Int)<4 from O0),.inl ⟨_,_,rfl,rfl,_,rfl,.inl ⟨nm,_,rfl,di3.nms,fun p2 hp2=>⟨p2,_,rfl,.inl ⟨SqL.of upd_same,fun p3 hp3=>?_⟩⟩⟩⟩⟩;obtain ⟨cut,ecut,hcut,hgood⟩:=qcf di2.good (lo:=mo % 5) (hi:=mo % 5+mo / 5 % 4) ⋯ ⋯;dsimp only at hp3 ⊢;rw [ecut] at hp3 ⊢;have g2:=qh hp2 (.lst (cut.map V.str));have g3:=qh hp3 (.tup (cut.map V.str));have h3:upd (upd H3 p2 (.lst (cut.map V.str))) p3 (.tup (cut.map V.str)) p3=some (.tup (cut.map V.str)):=upd_same;have di4:=(di3.same g2).same g3;have sy4:=(sy3.then g2).then g3;generalize upd (upd H3 p2 (.lst (cut.map V.str))) p3 (.tup (cut.map V.str))=H4 at h3 di4 sy4 ⊢;refine ⟨(O0:2≤Af),fun p4 hp4=>?_⟩;have g4:=qh hp4 (.lst [.str "fun",.str "loop"]);have di5:=di4.same g4;have sy5:=sy4.then g4;have fcut:Tre.Fts names (cut.map PyData.str):= .of fun d hd=>by
   obtain ⟨x,hx,rfl⟩:=Bo.mp hd;exact .name (hgood x hx).1 (Bc _ (hgood x hx).2)
  obtain ⟨hh,bb,hat,hbb,hwd⟩:∃ (hh:Str) (bb:Bool),atI [V.str "fun",V.str "loop"] (kd - 4)=some (.str hh)∧decide (V.int kd=V.int 5)=bb∧((hh="fun"∧bb=false)∨(hh="loop"∧bb=true)):=by
   have h45:kd=4∨kd=5:=⋯;rcases h45 with rfl | rfl
   ·exact ⟨"fun",false,ql (j:=0) rfl,O0,.inl ⟨rfl,rfl⟩⟩
   ·exact ⟨"loop",true,ql (j:=1) rfl,O0,.inr ⟨rfl,rfl⟩⟩
  refine ⟨_,rfl,_,_,rfl,rfl,ixL (SqL.of upd_same) hat ⟨_,rfl,_,rfl,_,rfl,_,_,rfl,rfl,_,rfl,rfl,?_⟩⟩;dsimp only;rw [hbb];refine qih (may:=bb) di5 hS.pb fun H6 x6 ds s6 t6 k6 l6 sy6 di6 r6 f6 bd6 b6=>⟨(O0:3≤Af),fun p hp=>?_⟩;have g:=qh hp (.tup [.str hh,.ref p3,x6]);refine q _ _ (.tuple [.str hh,.tuple (cut.map PyData.str),.tuple ds]) (s6+1) (t6+1) k6 l6 ((sy5.trans sy6).then g) (di6.same g) (.tup (SqT.of upd_same) (.cons (.str _) (.cons (.tup (g.sqT (sy6.sqT (SqT.of (g4 _ _ h3)))) (Reps.strs cut)) (.cons (r6.same g) .nil)))) ?_ (fun hands=>?_) (hS.fn b6)
  ·exact Tre.Fts.tup (.cons (.word (by rcases hwd with ⟨rfl,_⟩ | ⟨rfl,_⟩ <;> decide+kernel)) (.cons fcut.tup (.cons f6.tup .nil)))
  ·rcases hwd with ⟨rfl,rfl⟩ | ⟨rfl,rfl⟩
   ·exact Tre.qiy hcut bd6
   ·exact Tre.qgs hcut bd6
 refine qez rfl (fun e7=>?_) (fun e7=>?_)
 ·skip
  refine jS rfl rfl di3 hS.pt fun H4 x1 d1 s1 t1 k1 l1 sy4 di4 r1 f1 p1 b1=>?_;have mo0:=Be mo (show (5:Int)≠0 from O0);have mo1:=A9 mo (show (0:Int)<5 from O0);refine ⟨_,rfl,_,rfl,_,_,rfl,rfl,(show (0:Int)<5 from O0),_,rfl,⋯,⋯,?_⟩;generalize hcn:(mo % 5).toNat=cnt;have hc4:cnt≤4:=⋯;refine ji cnt (Iv_TreO3_0 K H st a nm ns names k l n' x1 d1 s1) ?_ (fun i ys H' h=>?_) (Aw hc4 O0) (fun i ys H' hi h=>?_) (fun ys H' h=>?_)
  ·exact ⟨[],k1,l1,0,0,sy3.trans sy4,di4,.nil,r1,rfl,.nil,fun _=> .nil,.nil hS b1⟩
  ·obtain ⟨ds,k',l',s,t,_,_,rs,_,hl,_⟩:=h;have:=rs.length;omega
  ·obtain ⟨ds,k',l',s,t,sy,di5,rs,r1',hl,hf,pt,ci⟩:=h;refine ⟨hi,fun v H5 yl=>?_⟩;obtain ⟨rfl,rfl⟩:=yl;refine jS rfl rfl di5 (ci.pre hS ⋯) fun H6 x d s2 t2 k2 l2 sy6 di6 rx fx px b2=>?_;refine ⟨ds++[d],k2,l2,s+s2,max t t2,sy.trans sy6,di6,(rs.stay sy6).append (.cons rx .nil),r1'.stay sy6,by rw [Ak,hl];rfl,hf.snoc fx,fun hands=>?_,ci.snoc b2⟩
   rw [A1];exact (pt hands).append (Tre.jO (px hands))
  ·obtain ⟨ds,k',l',s,t,sy,di5,rs,r1',hl,hf,pt,ci⟩:=h;refine ⟨Ax _,fun D hD=>?_⟩;refine ⟨D,ys,rfl,.inl ⟨SqL.of upd_same,fun p2 hp2=>⟨(O0:3≤Af),fun p3 hp3=>?_⟩⟩⟩;have ga:=(qh hD (.lst ys)).trans (qh hp2 (.tup ys));have gb:=qh hp3 (.tup [.str "call",x1,.ref p2]);have g:=ga.trans gb;refine q _ _ (.tuple [.str "call",d1,.tuple ds]) (s1+s+1) (max t1 t+1) k' l' (sy.then g) (di5.same g) (.tup (SqT.of upd_same) (.cons (.str _) (.cons (r1'.same g) (.cons (.tup (gb.sqT (SqT.of upd_same)) (rs.same g)) .nil)))) ?_ (fun hands=>Tre.qgt (p1 hands) ⋯ (pt hands)) (ci.out hS b1 hc4);exact Tre.Fts.tup (.cons (.word ∅) (.cons f1 (.cons hf.tup .nil)))
 refine jS rfl rfl di3 hS.pt fun H4 x1 d1 s1 t1 k1 l1 sy4 di4 r1 f1 p1 b1=>?_;refine jS rfl rfl di4 (hS.pt1 b1) fun H5 x2 d2 s2 t2 k2 l2 sy5 di5 r2 f2 p2 b2=>⟨(O0:3≤Af),fun p hp=>?_⟩;have g:=qh hp (.tup [.str "step",x1,x2]);refine q _ _ (.tuple [.str "step",d1,d2]) (s1+s2+1) (max t1 t2+1) k2 l2 (((sy3.trans sy4).trans sy5).then g) (di5.same g) (.tup (SqT.of upd_same) (.cons (.str _) (.cons ((r1.stay sy5).same g) (.cons (r2.same g) .nil)))) ?_ (fun hands=>Tre.qgp (p1 hands) (p2 hands)) (hS.two b1 b2);exact Tre.Fts.tup (.cons (.word ∅) (.cons f1 (.cons f2 .nil)))
theorem wH (F:Fun K "_law_term" "_law_term" Jw f fd) (c:Cs K mg ad) (n:Nat) (T B:Sp) (hT:0<n→T=spTrm K (n - 1)) (hB:0<n→B=spBdy K (n - 1)) (d_law_next:Def P w K mg base 2 "_law_next" ["_law_state"] (spNext K)) (d_law_number:Def P w K mg base 1 "_law_number" ["_law_more"] spNumber)
  (d_law_term:Def P w K mg base (4*n+3) "_law_term" ["_law_state","_law_deep"] T) (d_law_body:Def P w K mg base (4*n+3) "_law_body" ["_law_state","_law_deep","_law_may_hand"] B):FnOk P w K mg base CX0 (4*n+4) f fd ["_law_state","_law_deep"] (spTrm K n):=by
 refine F.ok (k:=4*n+3) zM (fun vs H Q E h=>?_) (fun cdv A outer s H vs Q E hr h=>?_)
 ·obtain ⟨st,a,nm,ns,names,k,l,deep,rfl,_⟩:=h;rfl
 obtain ⟨st,a,nm,ns,names,k,l,deep,rfl,di,pp,q⟩:=h;have hu:=ZK hr;refine ⟨_,(qc (pst 2 zM.nd (pdf d_law_next (qa (pv 0) qb)))
   (qc (Wo hu (pv 0) qg (qo zd (zH hu (pv 0) qg (fun _ _=>rfl)) qd) rfl)
   (qc (pst 3 zM.nd (qo qP (pv 2) qd))
   (qc (pst 4 zM.nd (qo zQ (pv 2) qd))
   (qc (pst 5 zM.nd (zH hu (pv 0) qg (fun _ _=>rfl)))
   (qc (qD (PW.pt (Jc (qq Vh (pv 1) qd (qw _)) (jL (qq Vh (zH hu (pv 0) qg (fun _ _=>rfl)) qd (qw _))))) (qf (pst 3 zM.nd (qo qP (pv 3) qd))) qt)
   (qc (qD (qq qT (pv 3) qd (qw _)) (qf (qr (qB (qa qg (qa (pdf d_law_number (qa (pv 4) qb)) qb))))) qt)
   (qc (qD (qq (vR (K:=K) rfl) (pv 3) (qB (qa qd (qa qd (qa qd qb)))) rfl) (qf (qr (qB (qa qg (qa (pix K (pv 5) (qo qP (pv 4) (qz (zN (K:=K) rfl) (by rfl) c.len_ ze (qa (pv 5) qb)))) qb))))) qt)
   (qc (qD (qq Vh (pv 3) qd (qw _)) (qf (qr (qB (qa qg (qa (pix K qg (qo qP (pv 4) qd)) (qa (pdf d_law_term (qa (pv 0) (qa (qo zd (pv 1) qd) qb))) (qa (pdf d_law_term (qa (pv 0) (qa (qo zd (pv 1) qd) qb))) qb))))))) qt)
   (qc (qD (qq Vh (pv 3) qd (qw _)) (qc (pst 6 zM.nd (qM (jJ (K:=K) rfl) (by rfl) c.tuple_ zK (qa (zV (wQ (K:=K) rfl) (pv 5) (ju (qo qP (pv 4) qd)) (ju (qo qA (qo qP (pv 4) qd) (qo qP (qo zQ (pv 4) qd) qd)))) qb)))
   (qf (qr (qB (qa (pix K (qJ (qa qg (qa qg qb))) (qo zd (pv 3) qd)) (qa (pv 6) (qa (pdf d_law_body (qa (pv 0) (qa (qo zd (pv 1) qd) (qa (zf qT (pv 3) qd (qw _)) qb)))) qb))))))) qt)
   (qc (qD (qq qT (pv 3) qd (qw _)) (qc (pst 7 zM.nd (pdf d_law_term (qa (pv 0) (qa (qo zd (pv 1) qd) qb))))
   (qf (qr (qB (qa qg (qa (pv 7) (qa (qM (jJ (K:=K) rfl) (by rfl) c.tuple_ zK (qa (jB (sc:=qj Jw) (NX:=["_law_state","_law_deep","_law_number_here","_law_kind","_law_more","_law_names_here","_law_params","_law_maker"]) (N:=["_law_turn","_law_state","_law_deep"]) (js:=[none,some 0,some 1]) (ja rfl c.range_ (qa (qo qP (pv 4) qd) qb)) (fun _ _ _ _ _=>(zy (i:=0) (show (["_law_turn","_law_state","_law_deep"]:List Str).Nodup from ∅) rfl (Or.inl rfl))) (fun _ _ _ _ _=>jN) (fun _ _ _ _ _=>(pdf d_law_term (qa (pv 1) (qa (qo zd (pv 2) qd) qb)))) (zX rfl) ⟨∅,rfl,∅,∅,rfl,∅⟩) qb)) qb))))))) qt)
   (qf (qr (qB (qa qg (qa (pdf d_law_term (qa (pv 0) (qa (qo zd (pv 1) qd) qb))) (qa (pdf d_law_term (qa (pv 0) (qa (qo zd (pv 1) qd) qb))) qb))))))))))))))))),?_⟩
 clear hu;refine ⟨_,rfl,st,a,nm,ns,k,l,rfl,di.dict,di.cells,pp.2.1,(by have:=pp.2.2;omega),fun z H1 hz0 hz1 e1=>?_⟩
 have di1:DIn K H1 st a nm ns names (k+1) l:=e1▸di.put;have sy1:Stay st H H1:=e1▸Stay.put di.dict;clear e1;refine ⟨_,rfl,_,_,rfl,(by rw [← vX a (k+1) l nm];exact jZ.k (k:=Sum.inr "left") di1.dict),_,_,rfl,rfl,?_⟩
 refine ⟨_,rfl,st,upd H1 st (.dK (stK a (k+1) (l - 1) nm)),rfl,(by rw [← WM a (k+1) l nm (l - 1)];exact ZY.k (k:=Sum.inr "left") di1.dict (Ch (show 4≤1000 from O0) O0)),?_⟩
 have di2:DIn K (upd H1 st (.dK (stK a (k+1) (l - 1) nm))) st a nm ns names (k+1) (l - 1):=di1.put;have sy2:Stay st H (upd H1 st (.dK (stK a (k+1) (l - 1) nm))):=sy1.trans (Stay.put di1.dict);generalize upd H1 st (.dK (stK a (k+1) (l - 1) nm))=H2 at di2 sy2 ⊢;have gL:jZ H2 st (.str "left") (some (.int (l - 1))):=by rw [← vX a (k+1) (l - 1) nm];exact jZ.k (k:=Sum.inr "left") di2.dict
 have gN:jZ H2 st (.str "names") (some (.ref nm)):=by rw [← Zg a (k+1) (l - 1) nm];exact jZ.k (k:=Sum.inr "names") di2.dict
 refine ⟨_,rfl,_,_,rfl,rfl,(show (0:Int)<10 from O0),_,rfl,_,_,rfl,rfl,⟨O0,O0⟩,_,rfl,st,_,rfl,gN,?_⟩;have m0:0≤z / 10:=⋯;have m1:z / 10<268435456:=⋯;refine ⟨_,rfl,_,_,rfl,rfl,_,rfl,?_⟩;have kz0:=Be z (show (10:Int)≠0 from O0);have kz1:=A9 z (show (0:Int)<10 from O0);have km0:=Be (z % 10) (show (2:Int)≠0 from O0);have km1:=A9 (z % 10) (show (0:Int)<2 from O0);refine w6 (fun c1=>vv ⟨_,rfl,_,_,rfl,rfl,(show (0:Int)<2 from O0),?g1⟩) (fun c1=>⟨_,rfl,st,_,rfl,gL,_,_,rfl,rfl,_,rfl,w6 (fun c2=>⟨_,rfl,_,_,rfl,rfl,(show (0:Int)<2 from O0),?g2⟩) (fun c2=>?g3)⟩)
 case g1=>
  have hkd:0≤z % 10 % 2∧z % 10 % 2<10∧(deep<1∨l - 1<0→z % 10 % 2<2):=⟨km0,⋯,fun _=>km1⟩;exact V5 hT hB pp q di2 sy2 m0 m1 hkd
 case g2=>
  have hkd:0≤z % 10 % 2∧z % 10 % 2<10∧(deep<1∨l - 1<0→z % 10 % 2<2):=⟨km0,⋯,fun _=>km1⟩;exact V5 hT hB pp q di2 sy2 m0 m1 hkd
 case g3=>
  have c1':¬ deep<1:=by simpa using c1
  have c2':¬ l - 1<0:=by simpa using c2
  have hkd:0≤z % 10∧z % 10<10∧(deep<1∨l - 1<0→z % 10<2):=⟨kz0,kz1,fun h=>⋯⟩;exact V5 hT hB pp q di2 sy2 m0 m1 hkd
theorem qlb {c:Bool} {A B:Prop} (hA:c=true→B→A) (hB:B):if c=true then A else B:=by
 cases c with
 | true=>exact zp rfl (hA rfl hB)
 | false=>exact zh rfl hB
structure BS where
 xs:List Aa
 s:Nat
 t:Nat
def qdh (K:Frag):TS:=zS (Jm (qe (tC (V.str "try")) (qe (tOp (rIx K) (qk 8) (tC (V.int 0))) (qe (qk 6) (qe (qk 5) (qe (tOp (rIx K) (qk 8) (tC (V.int 1))) (qe (tOp (rIx K) (qk 8) (tC (V.int 2))) qx)))))))
def qdg (K:Frag) (B:Sp):TS:=qO (zF (wB (qau (qe (tC (V.int 3)) qx)) [none,some 0,some 2,some 1] (qE 0) Zb (qI B [] E0 (qe (qk 1) (qe (tOp (rI0 fun i j=>V.int (i - j)) (qk 3) (tC (V.int 1))) (qe (qk 2) qx))))) (qE 8)) (qdh K)
def qdf (K:Frag) (m:Nat) (B:Sp):TS:=qO (zO (qW (tOp rEq (qk 4) (tC (V.int 7)))) (qO (zF (qI (spTrm K m) [] E0 (qe (qk 0) (qe (tOp (rI0 fun i j=>V.int (i - j)) (qk 1) (tC (V.int 1))) qx))) (qE 7)) (zS (Jm (qe (tC (V.str "if")) (qe (qk 7) (qe (qI B [] E0 (qe (qk 0) (qe (tOp (rI0 fun i j=>V.int (i - j)) (qk 1) (tC (V.int 1))) (qe (qk 2) qx)))) (qe (qI B [] E0 (qe (qk 0) (qe (tOp (rI0 fun i j=>V.int (i - j)) (qk 1) (tC (V.int 1))) (qe (qk 2) qx)))) qx))))))) zn) (qdg K B)
def qde (K:Frag) (m:Nat) (B:Sp):TS:=qO (zO (qW (tOp rEq (qk 4) (tC (V.int 6)))) (zS (Jm (qe (tC (V.str "while")) (qe (qI (spTrm K m) [] E0 (qe (qk 0) (qe (tOp (rI0 fun i j=>V.int (i - j)) (qk 1) (tC (V.int 1))) qx))) (qe (qI B [] E0 (qe (qk 0) (qe (tOp (rI0 fun i j=>V.int (i - j)) (qk 1) (tC (V.int 1))) (qe (qk 2) qx)))) qx))))) zn) (qdf K m B)
def qdd (K:Frag) (m:Nat) (B:Sp):TS:=qO (zO (qW (tOp rEq (qk 4) (tC (V.int 5)))) (zS (Jm (qe (tC (V.str "fault")) (qe (tOp (rIx K) (jz (qe (qk 6) (qe (tC (V.str "anya")) qx))) (tCB (fun xs H Q=>(∃ i,xs=[V.int i]∧Q (V.int i) H)∨∃ k,xs=[V.bl k]∧Q (V.int (if k=true then 1 else 0)) H) (qe (tOp rEq (qk 6) (tC (V.str "any"))) qx))) (qe (qI (spTrm K m) [] E0 (qe (qk 0) (qe (tOp (rI0 fun i j=>V.int (i - j)) (qk 1) (tC (V.int 1))) qx))) qx))))) zn) (qde K m B)
def qdc (K:Frag) (m:Nat) (B:Sp):TS:=qO (zO (qW (tOp (rI0 fun i j=>V.bl (decide (i<j))) (qk 4) (tC (V.int 5)))) (zS (Jm (qe (tOp (rIx K) (jz (qe (tC (V.str "hand")) (qe (tC (V.str "do")) (qe (tC (V.str "back")) qx)))) (tOp (rI0 fun i j=>V.int (i - j)) (qk 4) (tC (V.int 2)))) (qe (qI (spTrm K m) [] E0 (qe (qk 0) (qe (tOp (rI0 fun i j=>V.int (i - j)) (qk 1) (tC (V.int 1))) qx))) qx)))) zn) (qdd K m B)
def qaa (K:Frag) (m:Nat) (B:Sp):TS:=qO (zO (qW (tOp (rI0 fun i j=>V.bl (decide (i<j))) (qk 4) (tC (V.int 2)))) (zS (Jm (qe (tOp (rIx K) (jz (qe (tC (V.str "let")) (qe (tC (V.str "set")) qx))) (qk 4)) (qe (qk 5) (qe (qI (spTrm K m) [] E0 (qe (qk 0) (qe (tOp (rI0 fun i j=>V.int (i - j)) (qk 1) (tC (V.int 1))) qx))) qx))))) zn) (qdc K m B)
def qgc (K:Frag) (m:Nat) (B:Sp):TS:=qO (zO (qc9 (qW (tOp rEq (qk 4) (tC (V.int 2)))) (Z9 (tB (qk 2)))) (zF (tC (V.int 3)) (qE 4)) zn) (qaa K m B)
inductive Iv_TreP3_0 (K:W.Frag) (H:Hp) (m:Nat) (st:Ac) (a:Ac) (nm:Ac) (ns:List Int) (names:List Str) (k:Int) (l:Int) (may:Bool) (i:Nat) (ys:List V) (H':Hp):Prop
 | mk:∀ (bs:List BS) (k' l':Int),(Stay st H H')→(DIn K H' st a nm ns names k' l')→(Reps K H' ys (bs.map fun b=> .tuple b.xs))→(bs.length=i)→((∀ b∈bs,Tre.Bd b.xs may b.s b.t∧Tre.Fts names b.xs∧b.t≤m+2))→(Bud.TI m k l i (bs.map fun b=>b.s).sum k' l')→Iv_TreP3_0 K H m st a nm ns names k l may i ys H'
theorem Zm {H H3:Hp} {Q:VK} {n m:Nat} {B:Sp} {st a nm:Ac} {ns:List Int} {names:List Str} {k l deep z kd:Int} {may:Bool} {x wd:Str} (hm:Bud.Near n m) (hB:0<n→B=spBdy K m) (pp:Bud.PS n deep k l)
  (q:∀ H' x d (s t:Nat) k' l',Stay st H H'→DIn K H' st a nm ns names k' l'→Rep K H' x d→Tre.Ft names d→Tre.Pt d "statement" may s t→Bud.BS n k l s t k' l'→Q x H')
  (hx:Tre.qG x=true∧x∈names) (hw:Tre.qG wd=true∧wd∈Tre.words++names) (di3:DIn K H3 st a nm ns names (k+1) (l - 1)) (sy3:Stay st H H3) (e3':kd=2→may=true) (hkd:0≤kd∧kd<10∧(deep<2∨l - 1<0→kd<5)):
  qaa K m B {nx:=fun _ H'=>Q .non H',rt:=Q} [some (.ref st),some (.int deep),some (.bl may),some (.int z),some (.int kd),some (.str x),some (.str wd),none,none] H3:=by
 have pt:=pp.pt hm;obtain ⟨kd0,kd1,kd2⟩:=hkd;refine qhj rfl (fun e2=>?_) (fun e2=>?_)
 ·skip
  refine ⟨(O0:2≤Af),fun p1 hp1=>?_⟩;have gp1:=qh hp1 (.lst [.str "let",.str "set"]);have di4:=di3.same gp1;have sy4:=sy3.then gp1;obtain ⟨hh,hat,hhl⟩:∃ hh:Str,atI [V.str "let",V.str "set"] kd=some (.str hh)∧(hh="let"∨hh="set"):=by
   have:kd=0∨kd=1:=⋯;rcases this with rfl | rfl
   ·exact ⟨"let",ql (j:=0) rfl,.inl rfl⟩
   ·exact ⟨"set",ql (j:=1) rfl,.inr rfl⟩
  refine ⟨_,rfl,ixL (SqL.of upd_same) hat ⟨_,rfl,?_⟩⟩;refine jS rfl rfl di4 pt fun H5 x1 d1 s1 t1 k1 l1 sy5 di5 r1 f1 q1 b1=>⟨(O0:3≤Af),fun p hp=>?_⟩;have g:=qh hp (.tup [.str hh,.str x,x1]);exact q _ _ (.tuple [.str hh,.str x,d1]) (s1+1) (t1+1) k1 l1 ((sy4.trans sy5).then g) (di5.same g) (.tup (SqT.of upd_same) (.cons (.str _) (.cons (.str _) (.cons (r1.same g) .nil)))) (Tre.Fts.tup (.cons (.word (by rcases hhl with rfl | rfl <;> decide+kernel)) (.cons (.name hx.1 (Bc _ hx.2)) (.cons f1 .nil)))) (Tre.qix hhl hx.1 (q1 may)) (pp.one hm b1)
 refine qhj rfl (fun e5=>?_) (fun e5=>?_)
 ·skip
  refine ⟨(O0:3≤Af),fun p1 hp1=>?_⟩;have gp1:=qh hp1 (.lst [.str "hand",.str "do",.str "back"]);have di4:=di3.same gp1;have sy4:=sy3.then gp1;obtain ⟨hh,hat,hhl⟩:∃ hh:Str,atI [V.str "hand",V.str "do",V.str "back"] (kd - 2)=some (.str hh)∧(hh="do"∨hh="back"∨(hh="hand"∧may=true)):=by
   have:kd=2∨kd=3∨kd=4:=⋯;rcases this with rfl | rfl | rfl
   ·exact ⟨"hand",ql (j:=0) rfl,.inr (.inr ⟨rfl,e3' rfl⟩)⟩
   ·exact ⟨"do",ql (j:=1) rfl,.inl rfl⟩
   ·exact ⟨"back",ql (j:=2) rfl,.inr (.inl rfl)⟩
  refine ⟨_,rfl,_,_,rfl,rfl,ixL (SqL.of upd_same) hat ?_⟩;refine jS rfl rfl di4 pt fun H5 x1 d1 s1 t1 k1 l1 sy5 di5 r1 f1 q1 b1=>⟨(O0:2≤Af),fun p hp=>?_⟩;have g:=qh hp (.tup [.str hh,x1]);exact q _ _ (.tuple [.str hh,d1]) (s1+1) (t1+1) k1 l1 ((sy4.trans sy5).then g) (di5.same g) (.tup (SqT.of upd_same) (.cons (.str _) (.cons (r1.same g) .nil))) (Tre.Fts.tup (.cons (.word (by rcases hhl with rfl | rfl | ⟨rfl,_⟩ <;> decide+kernel)) (.cons f1 .nil))) (Tre.qku hhl (q1 may)) (pp.one hm b1)
 have hl1:0≤l - 1:=⋯;have hd1:2≤deep:=⋯;have hnm:n=m+1:=by have:=pp.1;have:=hm.2;omega
 subst hnm;have hm1:1≤m:=by have:=pp.1;omega
 have eB:B=spBdy K m:=hB ⋯;have hS:=pp.many hl1 ⋯;clear kd2 kd0 e3' e2 hB hl1 hd1;subst eB;refine qez rfl (fun e6=>?_) (fun e6=>?_)
 ·skip
  obtain ⟨y,hat,hy,hyn⟩:∃ y:Str,atI [V.str wd,V.str "anya"] (if decide (V.str wd=V.str "any")=true then 1 else 0)=some (.str y)∧(Tre.qG y&&y !="any")=true∧y∈Tre.words++names:=by
   by_cases ew:wd="any"
   ·rw [if_pos (An (congrArg V.str ew))];exact ⟨"anya",ql (j:=1) rfl,∅,B1 _ ∅⟩
   ·rw [if_neg (by rw [Ar fun z=>ew (V.str.inj z)];exact Ai)]
    exact ⟨wd,ql (j:=0) rfl,by rw [hw.1,B0];exact bne_iff_ne.mpr ew,hw.2⟩
  refine ⟨_,rfl,(O0:2≤Af),fun p1 hp1=>?_⟩;have gp1:=qh hp1 (.lst [.str wd,.str "anya"]);have di4:=di3.same gp1;have sy4:=sy3.then gp1;refine ⟨_,rfl,rfl,.inr ⟨_,rfl,ixL (SqL.of upd_same) hat ?_⟩⟩;refine jS rfl rfl di4 pt fun H5 x1 d1 s1 t1 k1 l1 sy5 di5 r1 f1 q1 b1=>⟨(O0:3≤Af),fun p hp=>?_⟩;have g:=qh hp (.tup [.str "fault",.str y,x1]);have hy1:Tre.qG y=true:=(Al _ _▸hy).1;exact q _ _ (.tuple [.str "fault",.str y,d1]) (s1+1) (t1+1) k1 l1 ((sy4.trans sy5).then g) (di5.same g) (.tup (SqT.of upd_same) (.cons (.str _) (.cons (.str _) (.cons (r1.same g) .nil)))) (Tre.Fts.tup (.cons (.word ∅) (.cons (.name hy1 hyn) (.cons f1 .nil)))) (Tre.qd1 hy (q1 may)) (pp.one hm b1)
 refine qez rfl (fun e7=>?_) (fun e7=>?_)
 ·skip
  refine jS rfl rfl di3 pt fun H4 x1 d1 s1 t1 k1 l1 sy4 di4 r1 f1 q1 b1=>?_;refine Ww rfl rfl rfl di4 (hS.pb1 b1) fun H5 x2 ds2 s2 t2 k2 l2 sy5 di5 r2 f2 bd2 b2=>⟨(O0:3≤Af),fun p hp=>?_⟩;have g:=qh hp (.tup [.str "while",x1,x2]);exact q _ _ (.tuple [.str "while",d1,.tuple ds2]) (s1+s2+1) (max t1 t2+1) k2 l2 (((sy3.trans sy4).trans sy5).then g) (di5.same g) (.tup (SqT.of upd_same) (.cons (.str _) (.cons ((r1.stay sy5).same g) (.cons (r2.same g) .nil)))) (Tre.Fts.tup (.cons (.word ∅) (.cons f1 (.cons f2.tup .nil)))) (Tre.qdz (q1 may) bd2) (hS.wh b1 b2)
 refine qez rfl (fun e8=>?_) (fun e8=>?_)
 ·skip
  refine jS rfl rfl di3 pt fun H4 x1 d1 s1 t1 k1 l1 sy4 di4 r1 f1 q1 b1=>?_;refine ⟨_,rfl,?_⟩;refine Ww rfl rfl rfl di4 (hS.pb1 b1) fun H5 x2 ds2 s2 t2 k2 l2 sy5 di5 r2 f2 bd2 b2=>?_;refine Ww rfl rfl rfl di5 (hS.pb2 b1 b2) fun H6 x3 ds3 s3 t3 k3 l3 sy6 di6 r3 f3 bd3 b3=>⟨(O0:4≤Af),fun p hp=>?_⟩;have g:=qh hp (.tup [.str "if",x1,x2,x3]);exact q _ _ (.tuple [.str "if",d1,.tuple ds2,.tuple ds3]) (s1+(s2+s3)+1) (max t1 (max t2 t3)+1) k3 l3 ((((sy3.trans sy4).trans sy5).trans sy6).then g) (di6.same g) (.tup (SqT.of upd_same) (.cons (.str _) (.cons (((r1.stay sy5).stay sy6).same g) (.cons ((r2.stay sy6).same g) (.cons (r3.same g) .nil))))) (Tre.Fts.tup (.cons (.word ∅) (.cons f1 (.cons f2.tup (.cons f3.tup .nil))))) (Tre.qkt (q1 may) bd2 bd3) (hS.if_ b1 b2 b3)
 refine ⟨_,rfl,O0,O0,?_⟩;refine ji 3 (Iv_TreP3_0 K H m st a nm ns names k l may) ?_ (fun i ys H' h=>?_) O0 (fun i ys H' hi h=>?_) (fun ys H' h=>?_)
 ·exact ⟨[],k+1,l - 1,sy3,di3,.nil,rfl,fun b hb=>(by cases hb),.nil hS hm1⟩
 ·obtain ⟨bs,k',l',_,_,rs,hl,_⟩:=h;have:=rs.length;rw [Ah] at this;omega
 ·obtain ⟨bs,k',l',sy,di5,rs,hl,hb,ti⟩:=h;refine ⟨hi,fun v H5 yl=>?_⟩;obtain ⟨rfl,rfl⟩:=yl;refine Ww rfl rfl rfl di5 (ti.pre hS hi) fun H6 x2 ds2 s2 t2 k2 l2 sy6 di6 r2 f2 bd2 b2=>?_;refine ⟨bs++[⟨ds2,s2,t2⟩],k2,l2,sy.trans sy6,di6,?_,by rw [Ak,hl];rfl,fun b hb'=>?_,?_⟩
  ·rw [A1];exact (rs.stay sy6).append (.cons r2 .nil)
  ·rcases Ci.mp hb' with h1 | h1
   ·exact hb b h1
   ·cases A0.mp h1;exact ⟨bd2,f2,b2.2.1⟩
  ·rw [A1,Dr];exact ti.snoc b2
 ·obtain ⟨bs,k',l',sy,di5,rs,hl,hb,ti⟩:=h
  match bs,hl with
  | [z0,z1,z2],_=>
   refine ⟨Ax _,fun D hD=>?_⟩;cases rs with
   | @cons y0 _ _ _ r0 rs=>
    cases rs with
    | @cons y1 _ _ _ r1 rs=>
     cases rs with
     | @cons y2 _ _ _ r2 rs=>
      cases rs;have gD:=qh hD (.lst [y0,y1,y2]);have sD:SqL K (upd H' D (.lst [y0,y1,y2])) D [y0,y1,y2]:=SqL.of upd_same;refine ⟨_,rfl,.inl ⟨D,_,_,_,rfl,rfl,sD,ql (j:=0) rfl,_,rfl,_,rfl,_,rfl,.inl ⟨D,_,_,_,rfl,rfl,sD,ql (j:=1) rfl,_,rfl,.inl ⟨D,_,_,_,rfl,rfl,sD,ql (j:=2) rfl,(O0:6≤Af),fun p hp=>?_⟩⟩⟩⟩;have g:=gD.trans (qh hp (.tup [.str "try",y0,.str wd,.str x,y1,y2]));obtain ⟨bd0,f0,t0⟩:=hb z0 (by simp)
      obtain ⟨bd1,f1,t1⟩:=hb z1 (by simp)
      obtain ⟨bd2,f2,t2⟩:=hb z2 (by simp)
      exact q _ _ (.tuple [.str "try",.tuple z0.xs,.str wd,.str x,.tuple z1.xs,.tuple z2.xs]) (z0.s+(z1.s+z2.s)+1) (max z0.t (max z1.t z2.t)+1) k' l' (sy.then g) (di5.same g) (.tup (SqT.of upd_same) (.cons (.str _) (.cons (r0.same g) (.cons (.str _) (.cons (.str _) (.cons (r1.same g) (.cons (r2.same g) .nil))))))) (Tre.Fts.tup (.cons (.word ∅) (.cons f0.tup (.cons (.name hw.1 hw.2) (.cons (.name hx.1 (Bc _ hx.2)) (.cons f1.tup (.cons f2.tup .nil))))))) (Tre.qiw hw.1 hx.1 bd0 bd1 bd2) (ti.out hS rfl t0 t1 t2)
theorem WH {H H3:Hp} {Q:VK} {n m:Nat} {B:Sp} {st a nm:Ac} {ns:List Int} {names:List Str} {k l deep z kd:Int} {may:Bool} {x wd:Str} (hm:Bud.Near n m) (hB:0<n→B=spBdy K m) (pp:Bud.PS n deep k l)
  (q:∀ H' x d (s t:Nat) k' l',Stay st H H'→DIn K H' st a nm ns names k' l'→Rep K H' x d→Tre.Ft names d→Tre.Pt d "statement" may s t→Bud.BS n k l s t k' l'→Q x H')
  (hx:Tre.qG x=true∧x∈names) (hw:Tre.qG wd=true∧wd∈Tre.words++names) (di3:DIn K H3 st a nm ns names (k+1) (l - 1)) (sy3:Stay st H H3) (hkd:0≤kd∧kd<10∧(deep<2∨l - 1<0→kd<5)):
  qgc K m B {nx:=fun _ H'=>Q .non H',rt:=Q} [some (.ref st),some (.int deep),some (.bl may),some (.int z),some (.int kd),some (.str x),some (.str wd),none,none] H3:=by
 refine ⟨_,rfl,rfl,_,rfl,?_⟩
 by_cases e3:kd=2∧may=false
 ·obtain ⟨rfl,rfl⟩:=e3;refine zp (show decide _=true from An rfl) ⟨_,rfl,_,rfl,zp (show (!false)=true from rfl) ?_⟩;exact Zm (kd:=3) hm hB pp q hx hw di3 sy3 (fun z=>absurd z O0) ⟨O0,O0,fun _=>O0⟩
 have e3':kd=2→may=true:=fun e=>by
  cases may with
  | true=>rfl
  | false=>exact absurd ⟨e,rfl⟩ e3
 refine qlb (fun hc hB=>⟨_,rfl,_,rfl,zh (show (!may)=false by rw [e3' (V.int.inj (A3 hc))];rfl) hB⟩) ?_
 exact Zm hm hB pp q hx hw di3 sy3 e3' hkd
theorem JX (F:Fun K "_law_statement" "_law_statement" zU f fd) (c:Cs K mg ad) (n lt lb:Nat) (hlt:lt≤4*n+4) (hlb:lb≤4*n+4) (B:Sp) (hB:0<n→B=spBdy K (n - 1)) (d_law_next:Def P w K mg base 2 "_law_next" ["_law_state"] (spNext K))
  (d_law_term:Def P w K mg base lt "_law_term" ["_law_state","_law_deep"] (spTrm K (n - 1))) (d_law_body:Def P w K mg base lb "_law_body" ["_law_state","_law_deep","_law_may_hand"] B):FnOk P w K mg base CX0 (4*n+5) f fd ["_law_state","_law_deep","_law_may_hand"] (spStm K n):=by
 refine F.ok (k:=4*n+4) qV (fun vs H Q E h=>?_) (fun cdv A outer s H vs Q E hr h=>?_)
 ·obtain ⟨st,a,nm,ns,names,k,l,deep,may,rfl,_⟩:=h;rfl
 obtain ⟨st,a,nm,ns,names,k,l,deep,may,rfl,di,pp,q⟩:=h;have hu:=ZK hr;refine ⟨_,(qc (pst 3 qV.nd (pdf d_law_next (qa (pv 0) qb)))
   (qc (Wo hu (pv 0) qg (qo zd (zH hu (pv 0) qg (fun _ _=>rfl)) qd) rfl)
   (qc (pst 4 qV.nd (qo qP (pv 3) qd))
   (qc (pst 5 qV.nd (pix K (zH hu (pv 0) qg (fun _ _=>rfl)) (qo qP (qo zQ (pv 3) qd) (qz (zN (K:=K) rfl) (by rfl) c.len_ ze (qa (zH hu (pv 0) qg (fun _ _=>rfl)) qb)))))
   (qc (pst 6 qV.nd (pix K (qJ (qa qg (qa qg (qa qg (qa qg (qa (pv 5) qb)))))) (qo qP (qo zQ (pv 3) qd) qd)))
   (qc (qD (PW.pt (Jc (qq Vh (pv 1) qd (qw _)) (jL (qq Vh (zH hu (pv 0) qg (fun _ _=>rfl)) qd (qw _))))) (qf (pst 4 qV.nd (qo qP (pv 4) qd))) qt)
   (qc (qD (PW.pt (Vq (qq qT (pv 4) qd (qw _)) (ve (jd (zt (pv 2)))))) (qf (pst 4 qV.nd qd)) qt)
   (qc (qD (qq Vh (pv 4) qd (qw _)) (qf (qr (qB (qa (pix K (qJ (qa qg (qa qg qb))) (pv 4)) (qa (pv 5) (qa (pdf d_law_term (qa (pv 0) (qa (qo zd (pv 1) qd) qb))) qb)))))) qt)
   (qc (qD (qq Vh (pv 4) qd (qw _)) (qf (qr (qB (qa (pix K (qJ (qa qg (qa qg (qa qg qb)))) (qo zd (pv 4) qd)) (qa (pdf d_law_term (qa (pv 0) (qa (qo zd (pv 1) qd) qb))) qb))))) qt)
   (qc (qD (qq qT (pv 4) qd (qw _)) (qf (qr (qB (qa qg (qa (pix K (qJ (qa (pv 6) (qa qg qb))) (qM v9 (by rfl) c.int_ ww (qa (zf qT (pv 6) qg (qw _)) qb))) (qa (pdf d_law_term (qa (pv 0) (qa (qo zd (pv 1) qd) qb))) qb)))))) qt)
   (qc (qD (qq qT (pv 4) qd (qw _)) (qf (qr (qB (qa qg (qa (pdf d_law_term (qa (pv 0) (qa (qo zd (pv 1) qd) qb))) (qa (pdf d_law_body (qa (pv 0) (qa (qo zd (pv 1) qd) (qa (pv 2) qb)))) qb)))))) qt)
   (qc (qD (qq qT (pv 4) qd (qw _)) (qc (pst 7 qV.nd (pdf d_law_term (qa (pv 0) (qa (qo zd (pv 1) qd) qb))))
   (qf (qr (qB (qa qg (qa (pv 7) (qa (pdf d_law_body (qa (pv 0) (qa (qo zd (pv 1) qd) (qa (pv 2) qb)))) (qa (pdf d_law_body (qa (pv 0) (qa (qo zd (pv 1) qd) (qa (pv 2) qb)))) qb)))))))) qt)
   (qc (qgw (i:=8) qV.nd rfl (by first | exact Or.inl rfl | exact Or.inr rfl) (sc:=qj zU) (NX:=["_law_state","_law_deep","_law_may_hand","_law_number_here","_law_kind","_law_name","_law_word","_law_test","_law_bodies_here"]) (N:=["_law_turn","_law_state","_law_may_hand","_law_deep"]) (js:=[none,some 0,some 2,some 1]) (ja rfl c.range_ (qa qd qb)) (fun _ _ _ _ _=>(zy (i:=0) (show (["_law_turn","_law_state","_law_may_hand","_law_deep"]:List Str).Nodup from ∅) rfl (Or.inl rfl))) (fun _ _ _ _ _=>jN) (fun _ _ _ _ _=>(pdf d_law_body (qa (pv 1) (qa (qo zd (pv 3) qd) (qa (pv 2) qb))))) (zX rfl) ⟨∅,rfl,∅,∅,rfl,∅⟩)
   (qf (qr (qB (qa qg (qa (pix K (pv 8) qd) (qa (pv 6) (qa (pv 5) (qa (pix K (pv 8) qd) (qa (pix K (pv 8) qd) qb)))))))))))))))))))))),?_⟩
 clear hu;refine ⟨_,rfl,st,a,nm,ns,k,l,rfl,di.dict,di.cells,pp.2.1,(by have:=pp.2.2;omega),fun z H1 hz0 hz1 e1=>?_⟩
 have di1:DIn K H1 st a nm ns names (k+1) l:=e1▸di.put;have sy1:Stay st H H1:=e1▸Stay.put di.dict;clear e1;refine ⟨_,rfl,_,_,rfl,(by rw [← vX a (k+1) l nm];exact jZ.k (k:=Sum.inr "left") di1.dict),_,_,rfl,rfl,?_⟩
 refine ⟨_,rfl,st,upd H1 st (.dK (stK a (k+1) (l - 1) nm)),rfl,(by rw [← WM a (k+1) l nm (l - 1)];exact ZY.k (k:=Sum.inr "left") di1.dict (Ch (show 4≤1000 from O0) O0)),?_⟩
 have di2:DIn K (upd H1 st (.dK (stK a (k+1) (l - 1) nm))) st a nm ns names (k+1) (l - 1):=di1.put;have sy2:Stay st H (upd H1 st (.dK (stK a (k+1) (l - 1) nm))):=sy1.trans (Stay.put di1.dict);generalize upd H1 st (.dK (stK a (k+1) (l - 1) nm))=H2 at di2 sy2 ⊢;have gL:∀ H',qy H2 H'→jZ H' st (.str "left") (some (.int (l - 1))):=fun H' g=>by rw [← vX a (k+1) (l - 1) nm];exact jZ.k (k:=Sum.inr "left") (di2.same g).dict
 have gN:jZ H2 st (.str "names") (some (.ref nm)):=by rw [← Zg a (k+1) (l - 1) nm];exact jZ.k (k:=Sum.inr "names") di2.dict
 have hnl:names.length=8:=di.good.len;obtain ⟨v,hv,x,rfl,hx⟩:=VZ (xs:=names.map V.str) (i:=z / 10 % (((names.map V.str).length:Nat):Int)) (p:=fun v=>∃ x,v= .str x∧Tre.qG x=true∧x∈names) (fun y hy=>by
  obtain ⟨x,hx,rfl⟩:=Bo.mp hy;exact ⟨x,rfl,di.good.good x hx,hx⟩) (Be _ (by rw [Ah,hnl];decide)) (A9 _ (by rw [Ah,hnl];decide))
 refine ⟨_,rfl,_,_,rfl,rfl,(show (0:Int)<10 from O0),?_⟩;refine ⟨_,rfl,st,_,rfl,gN,_,rfl,_,_,rfl,rfl,⟨O0,O0⟩,_,rfl,st,_,rfl,gN,_,_,rfl,.inl ⟨_,di2.nms,rfl⟩,_,_,rfl,rfl,(show (0:Int)<(((names.map V.str).length:Nat):Int) by rw [Ah,hnl];decide),.inl ⟨_,_,_,_,rfl,rfl,di2.nms,hv,?_⟩⟩
 obtain ⟨v,hv2,wd,rfl,hw⟩:=VZ (xs:=[V.str "great",V.str "kind",V.str "any",V.str "unset",V.str x]) (i:=z / 100 % 5) (p:=fun v=>∃ x,v= .str x∧Tre.qG x=true∧x∈Tre.words++names) (fun y hy=>by
  simp only [Ap,A2,or_false] at hy;rcases hy with rfl | rfl | rfl | rfl | rfl
  ·exact ⟨_,rfl,∅,B1 _ ∅⟩
  ·exact ⟨_,rfl,∅,B1 _ ∅⟩
  ·exact ⟨_,rfl,∅,B1 _ ∅⟩
  ·exact ⟨_,rfl,∅,B1 _ ∅⟩
  ·exact ⟨_,rfl,hx.1,Bc _ hx.2⟩) (Be _ O0) (A9 _ O0)
 refine ⟨_,rfl,(O0:5≤Af),fun p0 hp0=>⟨_,rfl,_,_,rfl,rfl,⟨O0,O0⟩,_,_,rfl,rfl,(show (0:Int)<5 from O0),ixL (SqL.of upd_same) hv2 ?_⟩⟩;have gp0:=qh hp0 (.lst [V.str "great",V.str "kind",V.str "any",V.str "unset",V.str x]);have gL':=gL _ gp0;have di3:=di2.same gp0;have sy3:=sy2.then gp0;clear gL gN hv hv2 di2 sy2 di1 sy1;dsimp only;generalize upd H2 p0 (.lst [V.str "great",V.str "kind",V.str "any",V.str "unset",V.str x])=H3 at gL' di3 sy3 ⊢;refine ⟨_,rfl,_,_,rfl,rfl,_,rfl,?_⟩;have kz0:=Be z (show (10:Int)≠0 from O0);have kz1:=A9 z (show (0:Int)<10 from O0);have km0:=Be (z % 10) (show (5:Int)≠0 from O0);have km1:=A9 (z % 10) (show (0:Int)<5 from O0);refine w6 (fun c1=>vv ⟨_,rfl,_,_,rfl,rfl,(show (0:Int)<5 from O0),?g1⟩) (fun c1=>⟨_,rfl,st,_,rfl,gL',_,_,rfl,rfl,_,rfl,w6 (fun c2=>⟨_,rfl,_,_,rfl,rfl,(show (0:Int)<5 from O0),?g2⟩) (fun c2=>?g3)⟩)
 case g1=>
  have hkd:0≤z % 10 % 5∧z % 10 % 5<10∧(deep<2∨l - 1<0→z % 10 % 5<5):=⟨km0,⋯,fun _=>km1⟩;exact WH (m:=n - 1) ⟨⋯,⋯⟩ hB pp q hx hw di3 sy3 hkd
 case g2=>
  have hkd:0≤z % 10 % 5∧z % 10 % 5<10∧(deep<2∨l - 1<0→z % 10 % 5<5):=⟨km0,⋯,fun _=>km1⟩;exact WH (m:=n - 1) ⟨⋯,⋯⟩ hB pp q hx hw di3 sy3 hkd
 case g3=>
  have c1':¬ deep<2:=by simpa using c1
  have c2':¬ l - 1<0:=by simpa using c2
  have hkd:0≤z % 10∧z % 10<10∧(deep<2∨l - 1<0→z % 10<5):=⟨kz0,kz1,fun h=>⋯⟩;exact WH (m:=n - 1) ⟨⋯,⋯⟩ hB pp q hx hw di3 sy3 hkd
end
end Mine
namespace L2
open PySem PySem.Spec PyProof.Rows
section
variable {K:Frag} {H:Hp}
theorem Rd.put {p b:Ac} {zs:List V} {o o':HO} (hp:H p=some (.lst zs)) (hd:∀ l,o≠ .lst l) (h:Rd H b o):Rd (upd H p o') b o:=by
 rcases h with h | ⟨ob,h⟩
 ·refine .inl ?_;rw [qu fun z=>by rw [z,hp] at h;exact hd _ (Bb h).symm]
  exact h
 ·refine .inr ⟨ob,?_⟩;rw [qu fun z=>by rw [z,hp] at h;cases h]
  exact h
theorem SqT.put {p b:Ac} {zs xs:List V} {o':HO} (hp:H p=some (.lst zs)) (h:SqT K H b xs):SqT K (upd H p o') b xs:=by
 rcases h with h | h
 ·exact .inl (Rd.put hp (fun l z=>by cases z) h)
 ·exact .inr h
mutual
theorem Rep.tups {H':Hp} (g:∀ {a:Ac} {xs:List V},SqT K H a xs→SqT K H' a xs):∀ {x:V} {d:Aa},Rep K H x d→Tre.noL d=true→Rep K H' x d
 | _,_,.non,_=> .non
 | _,_,.bl b,_=> .bl b
 | _,_,.int i,_=> .int i
 | _,_,.str x,_=> .str x
 | _,_,.lst h r,n=>by cases n
 | _,_,.tup h r,n=> .tup (g h) (Reps.tups g r (by rw [Tre.noL] at n;exact n))
theorem Reps.tups {H':Hp} (g:∀ {a:Ac} {xs:List V},SqT K H a xs→SqT K H' a xs):∀ {xs:List V} {ds:List Aa},Reps K H xs ds→Tre.zY ds=true→Reps K H' xs ds
 | _,_,.nil,_=> .nil
 | _,_,.cons h t,n=>by
  rw [Tre.zY,Al] at n;exact .cons (Rep.tups g h n.1) (Reps.tups g t n.2)
end
theorem Rep.put {p:Ac} {zs:List V} {o':HO} (hp:H p=some (.lst zs)) {x:V} {d:Aa} (h:Rep K H x d) (n:Tre.noL d=true):Rep K (upd H p o') x d:=h.tups (fun h=>h.put hp) n
theorem Reps.put {p:Ac} {zs:List V} {o':HO} (hp:H p=some (.lst zs)) {xs:List V} {ds:List Aa} (h:Reps K H xs ds) (n:Tre.zY ds=true):Reps K (upd H p o') xs ds:=h.tups (fun h=>h.put hp) n
end
end L2
namespace Mine
open PySem L2
section
variable {P:Program} {w:World} {K:Frag} {mg:Str→Option Ab} {base:Heap} {f:Ac} {fd:FuncData} {ad:Ad}
structure Known (K:Frag) (mg:Str→Option Ab) (x:Str) (ps:List Str) (f:Ac) (fd:FuncData):Prop where
 binds:Jf K fd ps []
 keep:PySem.W.keepIn K (.ref f)=true
 name:mg x=some (.ref f)
theorem Known.out {x:Str} {ps:List Str} {lv:Nat} {sp:Sp} (k:Known K mg x ps f fd) (F:FnOk P w K mg base CX0 lv f fd ps sp):Def P w K mg base lv x ps sp:=⟨f,fd,F,k.binds,k.keep,k.name⟩
theorem Wq {ps:List Str} {lv:Nat}:FnOk P w K mg base CX0 lv f fd ps (fun _ _ _ _=>False):=⟨fun _ _ _ _ h=>h.elim,fun _ _ _ _ _ _ _ _ _ _ _ _ _ h=>h.elim⟩
theorem Def.up {x:Str} {ps:List Str} {sp:Sp} {j k:Nat} (d:Def P w K mg base j x ps sp) (h:j≤k):Def P w K mg base k x ps sp:=by
 obtain ⟨f,fd,F,r⟩:=d.ex;exact ⟨f,fd,F.mono h,r⟩
theorem drawn {fT fS fB:Ac} {dT dS dB:FuncData} (FT:Fun K "_law_term" "_law_term" Jw fT dT) (FS:Fun K "_law_statement" "_law_statement" zU fS dS) (FB:Fun K "_law_body" "_law_body" Jx fB dB) (kT:Known K mg "_law_term" ["_law_state","_law_deep"] fT dT)
  (kS:Known K mg "_law_statement" ["_law_state","_law_deep","_law_may_hand"] fS dS) (kB:Known K mg "_law_body" ["_law_state","_law_deep","_law_may_hand"] fB dB) (c:Cs K mg ad) (d_law_next:Def P w K mg base 2 "_law_next" ["_law_state"] (spNext K)) (d_law_number:Def P w K mg base 1 "_law_number" ["_law_more"] spNumber):
  ∀ n:Nat,Def P w K mg base (4*n+4) "_law_term" ["_law_state","_law_deep"] (spTrm K n)∧Def P w K mg base (4*n+5) "_law_statement" ["_law_state","_law_deep","_law_may_hand"] (spStm K n)∧Def P w K mg base (4*n+6) "_law_body" ["_law_state","_law_deep","_law_may_hand"] (spBdy K n)
 | 0=>by
  have t:=kT.out (wH FT c 0 _ _ (fun h=>absurd h O0) (fun h=>absurd h O0) d_law_next d_law_number (kT.out Wq) (kB.out Wq));have s:=kS.out (JX FS c 0 4 4 O0 O0 _ (fun h=>absurd h O0) d_law_next t (kB.out Wq));exact ⟨t,s,kB.out (wI FB c 0 d_law_next s)⟩
 | n+1=>by
  obtain ⟨t0,s0,b0⟩:=drawn FT FS FB kT kS kB c d_law_next d_law_number n;have t:=kT.out (wH FT c (n+1) _ _ (fun _=>rfl) (fun _=>rfl) d_law_next d_law_number (Def.up t0 ⋯) (Def.up b0 ⋯));have s:=kS.out (JX FS c (n+1) (4*n+4) (4*n+6) ⋯ ⋯ _ (fun _=>rfl) d_law_next t0 b0);exact ⟨t,s,kB.out (wI FB c (n+1) d_law_next s)⟩
theorem qep (a:Ac) (k l:Int) (nm:Ac):vO [] (stK a k l nm)=stK a k l nm:=by
 have new:∀ (kvs:List (Key×V)) (x:Key) (v:V),(∀ kv∈kvs,¬ kv.1=x)→jy kvs x v=kvs++[(x,v)]:=fun kvs x v h=>by
  unfold jy;rw [if_neg];intro z;obtain ⟨kv,hkv,e⟩:=C4.mp z;exact h kv hkv (A3 e)
 unfold vO stK;rw [B8,B8,B8,B8,List.foldl_nil];have e1:jy ([]:List (Key×V)) (Sum.inr "cells") (V.ref a)=[((Sum.inr "cells":Key),V.ref a)]:=new [] (Sum.inr "cells") (V.ref a) fun kv h=>nomatch h;have e2:jy [((Sum.inr "cells":Key),V.ref a)] (Sum.inr "at") (V.int k)=[((Sum.inr "cells":Key),V.ref a),((Sum.inr "at":Key),V.int k)]:=new [((Sum.inr "cells":Key),V.ref a)] (Sum.inr "at") (V.int k) fun kv h=>by
  cases A0.mp h;exact qb1
 have e3:jy [((Sum.inr "cells":Key),V.ref a),((Sum.inr "at":Key),V.int k)] (Sum.inr "left") (V.int l)=[((Sum.inr "cells":Key),V.ref a),((Sum.inr "at":Key),V.int k),((Sum.inr "left":Key),V.int l)]:=new [((Sum.inr "cells":Key),V.ref a),((Sum.inr "at":Key),V.int k)] (Sum.inr "left") (V.int l) fun kv h=>by
  simp only [Ap,A2,or_false] at h;rcases h with rfl | rfl
  ·exact qjd
  ·exact qje
 have e4:jy [((Sum.inr "cells":Key),V.ref a),((Sum.inr "at":Key),V.int k),((Sum.inr "left":Key),V.int l)] (Sum.inr "names") (V.ref nm)=[((Sum.inr "cells":Key),V.ref a),((Sum.inr "at":Key),V.int k),((Sum.inr "left":Key),V.int l),((Sum.inr "names":Key),V.ref nm)]:=new [((Sum.inr "cells":Key),V.ref a),((Sum.inr "at":Key),V.int k),((Sum.inr "left":Key),V.int l)] (Sum.inr "names") (V.ref nm) fun kv h=>by
  simp only [Ap,A2,or_false] at h;rcases h with rfl | rfl | rfl
  ·exact qk6
  ·exact qk7
  ·exact qk5
 rw [e1,e2,e3,e4]
theorem qg6 {A B:Prop} (h:if false=true then A else B):B:=by simpa using h
theorem qce {names:List Str} (g:Nms names) {hi:Int} (h0:0≤hi) (h1:hi≤4):∃ cut:List Str,jf (names.map V.str) none (some hi)=cut.map V.str∧Tre.areNames (.tuple (cut.map PyData.str))=true∧∀ x∈cut,Tre.qG x=true∧x∈names:=by
 refine ⟨names.take hi.toNat,?_,?_,fun x hx=>⟨g.good x (Ce hx),Ce hx⟩⟩
 ·rw [yo _ _ hi.toNat ⋯,List.map_take]
 ·have hl:(names.take hi.toNat).length≤4:=by
   have:=Bz hi.toNat names;omega
  have hsub:∀ x∈names.take hi.toNat,Tre.qG x=true:=fun x hx=>g.good x (Ce hx);have hnd:(names.take hi.toNat).Nodup:=g.nd.take;generalize names.take hi.toNat=cut at hl hsub hnd;simp only [Tre.areNames];rw [Ah,An hl,B0,Bv,Al];refine ⟨?_,An ?_⟩
  ·rw [Dm];exact A4.mpr fun x hx=>hsub x hx
  ·have e:(Tre.txt ∘ PyData.str)=id:=rfl;rw [e,List.map_id];exact hnd
theorem qhb {ds:List Aa} {hands:Bool} {s t:Nat} (h:Tre.Ptl (ds.map fun x=>(x,("statement":Str))) hands s t):Tre.zY ds=true:=by
 have q:=h.tr;rw [Bv] at q;have e:((fun x:Aa×Str=>x.1) ∘ fun x:Aa=>(x,("statement":Str)))=id:=rfl;rw [e,List.map_id] at q;exact (Tre.QT q.gd).1
inductive spProg (K:Frag) (vs:List V) (H:Hp) (Q:VK) (E':XK):Prop
 | mk:∀ (a:Ac) (ns:List Int) (l0:Int),(0≤l0)→(l0≤40)→(vs=[.ref a,.int l0])→(SqL K H a (ns.map V.int))→(∀ H' x d s t (names:List Str),qy H H'→Rep K H' x d→names.length=8→Tre.Ft names d→Tre.Pt d "program" false s t→s≤300→t≤12→Q x H')→spProg K vs H Q E'
inductive Iv_TreR_0 (K:W.Frag) (H:Hp) (a:Ac) (ns:List Int) (l0:Int) (names:List Str) (nm:Ac) (st:Ac) (pb:Ac) (m:Nat) (σ:St) (H':Hp):Prop
 | mk:(H' nm=some (.lst (names.map V.str)))→∀ ys ds k' l' s t,(σ=[some (.ref a),some (.int l0),some (.ref nm),some (.ref st),some (.ref pb)])→(qy H H')→(DIn K H' st a nm ns names k' l')→(H' pb=some (.lst ys))→(Reps K H' ys ds)→(Tre.Fts names ds)→(Tre.Ptl (ds.map fun x=>(x,("statement":Str))) true s t)→(Bud.WI l0 ds.length m s t k' l')→Iv_TreR_0 K H a ns l0 names nm st pb m σ H'
def Wh (K:Frag):TS:=vo (tBM K "list" vd (qk 4) (qe (qI (spStm K 7) [] E0 (qe (qk 3) (qe (tOp zk (tC (V.int 2)) (tOp (rI (fun x j=>0<j) fun i j=>V.int (i % j)) (qI (spNext K) [] E0 (qe (qk 3) qx)) (tC (V.int 6)))) (qe (tC (V.bl true)) qx)))) qx))
def Wg (K:Frag):TS:=zS (Jm (qe (tC (V.str "main")) (qe (tCB (fun xs H Q=>∃ p ys,xs=[V.ref p]∧((SqL K H p ys∧∀ (l:Ac),H l=none→Q (V.ref l) (upd H l (HO.tup ys)))∨SqT K H p ys∧Q (V.ref p) H)) (qe (tSl (Qn K) (qk 2) VF (WJ (tOp (rI (fun x j=>0<j) fun i j=>V.int (i % j)) (qI (spCell K) [] E0 (qe (qk 0) (qe (tC (V.int 2)) qx))) (tC (V.int 5))))) qx)) (qe (tCB (fun xs H Q=>∃ p ys,xs=[V.ref p]∧((SqL K H p ys∧∀ (l:Ac),H l=none→Q (V.ref l) (upd H l (HO.tup ys)))∨SqT K H p ys∧Q (V.ref p) H)) (qe (qk 4) qx)) qx))))
def Wf (K:Frag):TS:=qO (Z6 (qc9 (qW (tOp (rI0 fun i j=>V.bl (decide (j<i))) (Ys (qk 3) (tC (V.str "left"))) (tC (V.int 0)))) (qW (tOp (rI0 fun i j=>V.bl (decide (i<j))) (tCB (fun xs H Q=>∃ x n,xs=[x]∧wz K x H n∧Q (V.int ↑n) H) (qe (qk 4) qx)) (tOp zk (tC (V.int 1)) (tOp (rI (fun x j=>0<j) fun i j=>V.int (i % j)) (qI (spCell K) [] E0 (qe (qk 0) (qe (tC (V.int 1)) qx))) (tC (V.int 6))))))) (Wh K)) (Wg K)
def We (K:Frag):TS:=qO (zF (jz qx) (qE 4)) (Wf K)
def Wc (K:Frag):TS:=qO (zF (qh4 [(tC (V.str "cells"),qk 0),(tC (V.str "at"),tC (V.int 0)),(tC (V.str "left"),qk 1),(tC (V.str "names"),qk 2)]) (qE 3)) (We K)
theorem W5 (F:Fun K "_law_program" "_law_program" JM f fd) (c:Cs K mg ad) (d_law_cell_at:Def P w K mg base 1 "_law_cell_at" ["_law_script","_law_k"] (spCell K)) (d_law_names:Def P w K mg base 1 "_law_names" ["_law_cell","_law_many"] spNames) (d_law_next:Def P w K mg base 2 "_law_next" ["_law_state"] (spNext K))
  (d_law_statement:Def P w K mg base 33 "_law_statement" ["_law_state","_law_deep","_law_may_hand"] (spStm K 7)):FnOk P w K mg base CX0 34 f fd ["_law_script","_law_most"] (spProg K):=by
 refine F.ok jK (fun vs H Q E h=>?_) (fun cdv A outer s H vs Q E hr h=>?_)
 ·obtain ⟨a,ns,l0,_,_,rfl,_⟩:=h;rfl
 obtain ⟨a,ns,l0,hl00,hl40,rfl,hS,q⟩:=h;have hu:=ZK hr;refine ⟨_,(qc (pst 2 jK.nd (pdf d_law_names (qa (qo qP (qo Ji (pdf d_law_cell_at (qa (pv 0) (qa qd qb))) qd) qd) (qa qd qb))))
   (qc (pst 3 jK.nd (qai (JV qg (pv 0) (JV qg qd (JV qg (pv 1) (JV qg (pv 2) qaf)))) rfl rfl (by intro z;cases z) O0))
   (qc (pst 4 jK.nd (qJ qb))
   (qc (Zp C3 (PW.pt (Vq (qq Yz (zH hu (pv 3) qg (fun _ _=>rfl)) qd (qw _)) (ve (qq Vh (qz (zN (K:=K) rfl) (by rfl) c.len_ ze (qa (pv 4) qb)) (qo qA qd (qo qP (pdf d_law_cell_at (qa (pv 0) (qa qd qb))) qd)) (qw _))))) (qf (zP (vw (K:=K) rfl By Ck Cl jG (pv 4) (qa (pdf d_law_statement (qa (pv 3) (qa (qo qA qd (qo qP (pdf d_law_next (qa (pv 3) qb)) qd)) (qa zW qb)))) qb)))))
   (qf (qr (qB (qa qg (qa (qM (jJ (K:=K) rfl) (by rfl) c.tuple_ zK (qa (zV (wQ (K:=K) rfl) (pv 2) jM (ju (qo qP (pdf d_law_cell_at (qa (pv 0) (qa qd qb))) qd))) qb)) (qa (qM (jJ (K:=K) rfl) (by rfl) c.tuple_ zK (qa (pv 4) qb)) qb)))))))))),?_⟩
 show qO (zF (qI spNames [] E0 (qe (tOp (rI (fun x j=>0<j) fun i j=>V.int (i % j)) (tOp (rI X5 fun i j=>V.int (i*j)) (qI (spCell K) [] E0 (qe (qk 0) (qe (tC (V.int 0)) qx))) (tC (V.int 48271))) (tC (V.int 2147483647))) (qe (tC (V.int 8)) qx))) (qE 2)) (Wc K) _ _ _;clear hu;refine ⟨_,rfl,a,ns,_,rfl,hS,O0,fun i0=>⟨_,_,rfl,rfl,.inr ⟨O0,O0⟩,_,_,rfl,rfl,(show (0:Int)<2147483647 from O0),?_⟩⟩;refine ⟨_,rfl,Be _ O0,A9 _ O0,fun names nm H1 good g1 hnm=>?_⟩;refine fun st hst=>⟨_,rfl,_,rfl,_,rfl,upd_same,stK a 0 l0 nm,rfl,(O0:4≤15),?_⟩;rw [qep];have u2:upd (upd H1 st (.dK [])) st (.dK (stK a 0 l0 nm))=upd H1 st (.dK (stK a 0 l0 nm)):=by
  funext b;unfold upd;split <;> rfl
 rw [u2];have gst:=qh hst (.dK (stK a 0 l0 nm));have di0:DIn K (upd H1 st (.dK (stK a 0 l0 nm))) st a nm ns names 0 l0:=⟨upd_same,gst.seq (g1.seq hS),gst.seq (SqL.of hnm),good⟩;have hst0:H st=none:=g1.free hst;have g2:=g1.trans gst;have hn2:=gst _ _ hnm;have nst:nm≠st:=fun z=>by rw [z,hst] at hnm;cases hnm
 generalize upd H1 st (.dK (stK a 0 l0 nm))=H2 at di0 g2 hn2 ⊢;refine ⟨(O0:0≤Af),fun pb hpb=>?_⟩;have hpb0:H pb=none:=g2.free hpb;have gpb:=qh hpb (.lst []);have nsp:pb≠st:=fun z=>by rw [z,di0.dict] at hpb;cases hpb
 have npb:nm≠pb:=fun z=>by rw [z,hpb] at hn2;cases hn2
 refine ⟨(Iv_TreR_0 K H a ns l0 names nm st pb),⟨6,gpb _ _ hn2,[],[],0,l0,0,0,rfl,g2.trans gpb,di0.same gpb,upd_same,.nil,.nil,.nil,.nil hl00 hl40⟩,?_⟩;rintro m σ H3 ⟨hn3,ys,ds,k',l',s,t,rfl,g3,di3,hb3,rs3,ff3,pt3,wi⟩;have gL:jZ H3 st (.str "left") (some (.int l')):=by rw [← vX a k' l' nm];exact jZ.k (k:=Sum.inr "left") di3.dict
 have hln:=rs3.length;refine ⟨_,rfl,st,_,rfl,gL,_,_,rfl,rfl,_,rfl,?_⟩;refine qlb (fun c1 hB=>?_) ?_
 ·have c1':0<l':=A3 c1;refine ⟨_,rfl,_,_,rfl,.inl ⟨_,SqL.of hb3,rfl⟩,_,rfl,a,ns,_,rfl,di3.cells,O0,fun i1=>⟨_,_,rfl,rfl,(show (0:Int)<6 from O0),.inl ⟨_,_,rfl,rfl,_,_,rfl,rfl,_,rfl,w6 (fun c2=>?_) (fun c2=>qg6 hB)⟩⟩⟩;have c2':((ys.length:Nat):Int)<1+i1 % 6:=A3 c2;have c3:=A9 i1 (show (0:Int)<6 from O0);refine ⟨_,fun σ' H' h=>h,?_⟩;refine ⟨_,rfl,.inl ⟨rfl,_,SqL.of hb3⟩,_,rfl,_,rfl,st,a,nm,ns,k',l',rfl,di3.dict,di3.cells,wi.2.2.2.1,(by have:=wi.2.2.2;omega),fun z H4 hz0 hz1 e4=>?_⟩
  have di4:DIn K H4 st a nm ns names (k'+1) l':=e4▸di3.put;have sy4:Stay st H3 H4:=e4▸Stay.put di3.dict;clear e4;have z0:=Be z (show (6:Int)≠0 from O0);have z1:=A9 z (show (0:Int)<6 from O0);refine ⟨_,_,rfl,rfl,(show (0:Int)<6 from O0),.inl ⟨_,_,rfl,rfl,qig di4 (wi.pre (show 2+z % 6≤7 from ⋯)) fun H5 x d s2 t2 k2 l2 sy5 di5 rx fx px b2=>?_⟩⟩;have sy:=sy4.trans sy5;have hb5:H5 pb=some (.lst ys):=sy.rest _ _ nsp hb3;refine ⟨pb,_,_,rfl,rfl,hb5,by have:(10:Nat)<Af:=O0;omega,?_⟩
  have nx:Tre.noL d=true:=(Tre.Tr.gd px.tr).nol;have sm:qy H (upd H5 pb (.lst (ys++[x]))):=fun b o e=>by
   have nb:b≠pb:=fun z=>by rw [z,hpb0] at e;cases e
   have nt:b≠st:=fun z=>by rw [z,hst0] at e;cases e
   rw [qu nb];exact sy.rest b o nt (g3 b o e)
  have hn5:upd H5 pb (.lst (ys++[x])) nm=some (.lst (names.map V.str)):=by
   rw [qu npb];exact sy.rest _ _ nst hn3
  have wj:Bud.WI l0 (ds++[d]).length (m - 1) (s+s2) (max t t2) k2 l2:=by
   rw [Ak];exact wi.snoc c1' ⋯ b2
  refine ⟨m - 1,by have:=wi.1;omega,hn5,ys++[x],ds++[d],k2,l2,s+s2,max t t2,rfl,sm,⟨by rw [qu (Ne.symm nsp)];exact di5.dict,sm.seq hS,SqL.of hn5,good⟩,upd_same,?_,ff3.snoc fx,?_,wj⟩
  ·exact Reps.put hb5 ((rs3.stay sy).append (.cons rx .nil)) (qhb (ds:=ds++[d]) (by rw [A1];exact pt3.append (Tre.jO px)))
  ·rw [A1];exact pt3.append (Tre.jO px)
 ·obtain ⟨hm3,hs3,ht3,hk3,hkl3,hl3⟩:=wi;refine zh rfl ?_;refine ⟨_,rfl,_,rfl,a,ns,_,rfl,di3.cells,O0,fun i2=>⟨_,_,rfl,rfl,(show (0:Int)<5 from O0),_,rfl,.inl ⟨nm,_,rfl,di3.nms,fun p2 hp2=>⟨p2,_,rfl,.inl ⟨SqL.of upd_same,fun p3 hp3=>?_⟩⟩⟩⟩⟩;have m0:=Be i2 (show (5:Int)≠0 from O0);have m1:=A9 i2 (show (0:Int)<5 from O0);obtain ⟨cut,ecut,hcut,hgood⟩:=qce good m0 ⋯;dsimp only at hp3 ⊢;rw [ecut] at hp3 ⊢;have g4:=qh hp2 (.lst (cut.map V.str));have g5:=qh hp3 (.tup (cut.map V.str));have h3:upd (upd H3 p2 (.lst (cut.map V.str))) p3 (.tup (cut.map V.str)) p3=some (.tup (cut.map V.str)):=upd_same;have g45:=g4.trans g5;generalize upd (upd H3 p2 (.lst (cut.map V.str))) p3 (.tup (cut.map V.str))=H4 at h3 g45 ⊢;refine ⟨_,rfl,pb,ys,rfl,.inl ⟨SqL.of (g45 _ _ hb3),fun p4 hp4=>⟨(O0:3≤Af),fun p5 hp5=>?_⟩⟩⟩;have ga:=qh hp4 (.tup ys);have gb:=qh hp5 (.tup [.str "main",.ref p3,.ref p4]);have gc:=ga.trans gb;have fcut:Tre.Fts names (cut.map PyData.str):= .of fun d hd=>by
   obtain ⟨x,hx,rfl⟩:=Bo.mp hd;exact .name (hgood x hx).1 (Bc _ (hgood x hx).2)
  refine q _ _ (.tuple [.str "main",.tuple (cut.map PyData.str),.tuple ds]) (s+1) (t+1) names ((g3.trans g45).trans gc) (.tup (SqT.of upd_same) (.cons (.str _) (.cons (.tup (gc.sqT (SqT.of h3)) (Reps.strs cut)) (.cons (.tup (gb.sqT (SqT.of upd_same)) ((rs3.same g45).same gc)) .nil)))) good.len ?_ (Tre.qgr hcut ⟨⋯,pt3⟩) ⋯ ⋯;exact Tre.Fts.tup (.cons (.word ∅) (.cons fcut.tup (.cons ff3.tup .nil)))
end
structure Tb2 (K:Frag) (mg:Str→Option Ab):Prop where
 UNWRITTEN:∃ a,mg "UNWRITTEN"=some (.ref a)∧∀ H:Hp,SqT K H a (Sho.unwritten.map V.str)
 OPEN_ENDED:∃ a,mg "OPEN_ENDED"=some (.ref a)∧∀ H:Hp,SqT K H a (Sho.opened.map V.str)
 BRACKETED:∃ a,mg "BRACKETED"=some (.ref a)∧∀ H:Hp,SqT K H a (Sho.bracketed.map V.str)
section
variable {P:Program} {w:World} {K:Frag} {mg:Str→Option Ab} {base:Heap} {f:Ac} {fd:FuncData} {ad:Ad}
inductive spPart (K:Frag) (n:Nat) (vs:List V) (H:Hp) (Q:VK) (E':XK):Prop
 | mk:∀ x d s t,(vs=[x])→(Rep K H x d)→(Tre.Tr d s t)→(s≤300)→(t≤n)→(∀ H',qy H H'→Q (.str (Sho.tx (Sho.wP n d))) H')→spPart K n vs H Q E'
inductive spTh (K:Frag) (n:Nat) (b:Bool) (vs:List V) (H:Hp) (Q:VK) (E':XK):Prop
 | mk:∀ x t u,(vs=[x,.str u])→(Rep K H x t)→(Sho.ThR n b u t)→(∀ H',qy H H'→Q (.str (Sho.tx (Sho.wT (Sho.wP n) u t))) H')→spTh K n b vs H Q E'
inductive spMem (K:Frag) (n:Nat) (vs:List V) (H:Hp) (Q:VK) (E':XK):Prop
 | mk:∀ x xs u m,(vs=[x,.str u])→(Rep K H x (.tuple xs))→(Tre.members.lookup u=some m)→(xs.length≤12)→((∀ z∈xs,Sho.ThR n false m z))→(∀ H' p,qy H H'→H p=none→H' p=some (.lst ((xs.map fun z=>Sho.tx (Sho.wT0 (Sho.wP n) m z)).map V.str))→Q (.ref p) H')→spMem K n vs H Q E'
theorem X8 (z:Str) (ys:List Str):Txt.join z ys=Str.join z ys:=Az.mp (PyProof.Rows.join_plain_closes z ys)
theorem line {n:Nat} (h:n≤16000000):n≤Af:=Aw h O0
theorem qd7 {t:Aa} {x:V} {H:Hp} (h:Sho.Pl t) (r:Rep K H x t) {Q:VK} (q:Q (.str (Sho.strOf t)) H):(∃ y,[x]=[.str y]∧Q (.str y) H)∨∃ i:Int,[x]=[.int i]∧i.natAbs.log2<1920∧Q (.str (Str.ofString (toString i))) H:=by
 cases h with
 | str _ _=>cases r;exact .inl ⟨_,rfl,q⟩
 | int h=>cases r;exact .inr ⟨_,rfl,Tre.VT h,q⟩
theorem vL (F:Fun K "shown_thing" "shown_thing" j6 f fd) (c:Cs K mg ad) (T:Tb P w K mg) (b:Bool) (n lv lm:Nat) (h1:4*n+1≤lv) (h2:lm≤lv) (M:Sp) (hM:b=true→M=spMem K n)
  (d_shown_part:Def P w K mg base (4*n+1) "shown_part" ["part"] (spPart K n)) (d_shown_members:Def P w K mg base lm "shown_members" ["things","shape"] M):FnOk P w K mg base CX0 (lv+1) f fd ["thing","shape"] (spTh K n b):=by
 refine F.ok (k:=lv) WP (fun vs H Q E h=>?_) (fun cdv A outer s H vs Q E hr h=>?_)
 ·obtain ⟨x,t,u,rfl,_⟩:=h;rfl
 obtain ⟨x,t,u,rfl,hk,th,q⟩:=h;refine ⟨_,(qc (qD (qq (vR (K:=K) rfl) (pv 1) (qB (qa qg (qa qg qb))) rfl) (qf (qr (pdf d_shown_part (qa (pv 0) qb)))) qt)
   (qc (qD (Qo (W3 T.MEMBERS c.ns_MEMBERS (pv 1))) (qf (qr (qo qA (qo qA qg (vw (K:=K) rfl Cg Dp Dq (yf (K:=K) rfl) qg (qa (pdf d_shown_members (qa (pv 0) (qa (pv 1) qb))) qb))) qg))) qt)
   (qf (qr (qM qdb (by rfl) c.str_ vU (qa (pv 0) qb)))))),?_⟩
 refine qv fun D2 h2 r2=>qZ fun B b1 b2=>⟨_,rfl,(O0:2≤Af),fun q2 hq2=>⟨q2,_,rfl,.inr (SqT.of upd_same),rfl,rfl,_,rfl,?_⟩⟩;have g0:=qh hq2 (.tup [.str "term",.str "statement"]);generalize upd H q2 (.tup [.str "term",.str "statement"])=H0 at g0 ⊢;have e0:inV (.str u) [.str "term",.str "statement"]=(u=="term"||u=="statement"):=wo _ _ _;rw [if_neg Ai,e0];cases th with
 | part hu ht hs hτ=>
  refine bP hu (b1 _ ⟨_,rfl,x,t,_,_,rfl,hk.same g0,ht,hs,hτ,fun H1 g1=>r2 _ _ ?_⟩);have q1:=q H1 (g0.trans g1);rw [Sho.wT_part hu] at q1;exact q1
 | plain hu hm hp=>
  refine bN hu (b2 _ (h2 _ _ (qv fun D3 h3 r3=>qZ fun B b1 b2=>⟨_,rfl,u,rfl,_,rfl,?_⟩)));refine bN (by rw [hm];rfl) (b2 _ (h3 _ _ ⟨_,rfl,qd7 hp (hk.same g0) ?_⟩))
  have q1:=q H0 g0;rw [Sho.wT_plain hu hm,Sho.tx_one] at q1;exact q1
 | @row _ m xs hm hl hx=>
  obtain rfl:=hM rfl;refine bN (Sho.mem_term hm) (b2 _ (h2 _ _ (qv fun D3 h3 r3=>qZ fun B b1 b2=>⟨_,rfl,u,rfl,_,rfl,?_⟩)));refine bP (by rw [hm];rfl) (b1 _ ⟨rfl,_,rfl,_,rfl,x,xs,u,m,rfl,hk.same g0,hm,hl,hx,fun H1 p g1 hp h1=>?_⟩)
  have ln:=Sho.sum_le (ws:=[]) (m:=600000) (xs.map (Sho.wT0 (Sho.wP n) m)) fun i hi=>by
   obtain ⟨z,hz,rfl⟩:=Bo.mp hi;exact (hx z hz).wl
  rw [Bv (f:=Sho.wT0 (Sho.wP n) m),Ah] at ln;have L:=Sho.row_len hm hl hx;have q1:=fun H1 g=>q H1 g;rw [Sho.row_tx hm hx,Bv] at L q1;have L2:=L;rw [Sho.len_app] at L2;refine ⟨_,p,_,rfl,rfl,SqL.of h1,?_,.inr (.inl ⟨_,_,rfl,rfl,?_,?_⟩)⟩
  ·rw [Ah];show _+xs.length*1≤_;refine Aw (Nat.add_le_add_right ln _) ?_;omega
  ·rw [X8,← Sho.len_app];exact line (Aw (Aw (Nat.le_add_right _ _) L2) O0)
  rw [X8];refine .inr (.inl ⟨_,_,rfl,rfl,?_,r3 _ _ (q1 H1 (g0.trans g1))⟩);rw [← Sho.len_app];exact line (Aw L O0)
theorem we (F:Fun K "shown_members" "shown_members" zT f fd) (c:Cs K mg ad) (T:Tb P w K mg) (n:Nat) (d_shown_thing:Def P w K mg base (4*n+2) "shown_thing" ["thing","shape"] (spTh K n false)):FnOk P w K mg base CX0 (4*n+3) f fd ["things","shape"] (spMem K n):=by
 refine F.ok (k:=4*n+2) V7 (fun vs H Q E h=>?_) (fun cdv A outer s H vs Q E hr h=>?_)
 ·obtain ⟨x,xs,u,m,rfl,_⟩:=h;rfl
 obtain ⟨x,xs,u,m,rfl,hk,hm,hl,hx,q⟩:=h;refine ⟨_,(qf (qr (jB (sc:=qj zT) (NX:=["things","shape"]) (N:=["one","shape"]) (js:=[none,some 1]) (WY (K:=K) rfl (pv 0)) (fun _ _ _ _ _=>(zy (i:=0) (show (["one","shape"]:List Str).Nodup from ∅) rfl (Or.inl rfl))) (fun _ _ _ _ _=>jN) (fun _ _ _ _ _=>(pdf d_shown_thing (qa (pv 0) (qa (Wp T.MEMBERS (pv 1) (fun _ _=>rfl)) qb)))) (zX rfl) ⟨∅,rfl,∅,∅,rfl,∅⟩))),?_⟩;obtain ⟨a,ws,rfl,hq,rs⟩:=hk.tup_inv;have hwl:=rs.length;refine ⟨_,rfl,.inr (.inl ⟨a,rfl,⟨ws,hq⟩,?_⟩)⟩;refine ji xs.length (fun j ys H'=>qy H H'∧ys=((xs.take j).map fun z=>Sho.tx (Sho.wT0 (Sho.wP n) m z)).map V.str) ⟨qy.refl _,rfl⟩ (fun j ys H' h=>?_) (Aw hl O0) (fun j ys H' hj h=>?_) (fun ys H' h=>?_)
 ·obtain ⟨_,rfl⟩:=h;rw [Ah,Ah];exact Bz _ _
 ·obtain ⟨g,rfl⟩:=h;obtain ⟨v,hv⟩:=vj (l:=ws) (i:=j) ⋯;refine ⟨⟨ws,_,g.sqT hq,hv⟩,fun y H6 yl=>?_⟩;obtain ⟨rfl,hy⟩:=yl;have e6:=hv.symm.trans (hy ws (g.sqT hq));cases e6;obtain ⟨d,hd,rd⟩:=rs.get hv;have th:=hx d (Bx hd);refine ⟨_,rfl,_,rfl,u,_,rfl,hm,v,d,m,rfl,rd.same g,th,fun H1 g1=>⟨g.trans g1,?_⟩⟩;rw [Sho.wT_same th,Bw,hd,A1,A1];rfl
 ·obtain ⟨g,rfl⟩:=h;refine ⟨⟨ws,g.sqT hq,⋯⟩,fun D hD=>?_⟩;rw [Cb];exact q _ D (g.trans (qh hD _)) (Dx.mpr fun o ho=>by rw [g _ _ ho] at hD;cases hD) upd_same
theorem deq {a b:Str} (h:a=b):decide (V.str a=V.str b)=true:=An (congrArg V.str h)
theorem dne {a b:Str} (h:a≠b):decide (V.str a=V.str b)=false:=Ar fun z=>h (V.str.inj z)
theorem jn (h:Str) (l:List Str):inV (.str h) (l.map V.str)=l.contains h:=by
 rw [Ws,B5,Cn,C4];exact ⟨fun ⟨y,hy,e⟩=>Az.mp e▸hy,fun hy=>⟨h,hy,Az.mpr rfl⟩⟩
theorem qhg {l:List Str} (h:l≠[]):atI (l.map V.str) (-1)=some (.str (l.getLastD "")):=by
 obtain ⟨r,x,rfl⟩:∃ r x,l=r++[x]:=⟨l.dropLast,l.getLast h,(List.dropLast_concat_getLast h).symm⟩;rw [A1,List.getLastD_eq_getLast?,Dw];exact yt _ _
theorem Qc {hd last:Str} {fn:Aa→List Str} {ps:List (Aa×Str)} {i:Nat} {p:Aa×Str} (h:ps[i]?=some p) (a:List (List Str)):(a++(ps.take (i+1)).flatMap (Sho.itm fn hd last)).map Sho.tx=(a++(ps.take i).flatMap (Sho.itm fn hd last)).map Sho.tx++(Sho.itm fn hd last p).map Sho.tx:=by
 rw [Bw,h,List.flatMap_append,← Bl,A1];simp
set_option tactic.hygienic true in
theorem qat {hd last:Str} {n:Nat} {p:Aa×Str} (th:Sho.ThR n true p.2 p.1) (hlm:Sho.opened.contains hd=true→(Tre.members.lookup last).isSome=true) (fn:Aa→List Str):(Sho.itm fn hd last p).length≤12:=by
 obtain ⟨t,u⟩:=p;unfold Sho.itm;split
 ·rename_i c;cases th with
  | row h1 h2 _=>
   unfold Sho.mem;rw [Ah];exact h2
  | part h _ _ _=>
   rw [Al,Az] at c;have z:=hlm c.1;rw [← c.2,show Tre.members.lookup (t,u).2=none from Sho.term_mem h] at z;cases z
  | plain _ _ h=>cases h <;> exact Bm _
 ·exact (O0:1≤12)
theorem Xn:∀ p∈Tre.forms,p.2≠[]∧(Sho.opened.contains p.1=true→(Tre.members.lookup (p.2.getLastD "")).isSome=true):=∅
inductive Iv_ShoB_0 (n:Nat) (H:Hp) (hd:Str) (ts:List Aa) (fs:List Str) (a:Ac) (ys:List V) (a0:List (List Str)) (p0:Ac) (a3:Ac) (p1:Ac) (i:Nat) (σ:St) (H':Hp):Prop
 | mk:∀ o4 o5,(σ=[some (.ref a),some (.str hd),some (.ref p0),some (.ref a3),o4,o5])→(qy H H')→(H' p1=some (.tup ys))→(H' p0=some (.lst (((a0++((ts.zip fs).take i).flatMap (Sho.itm (Sho.wP n) hd (fs.getLastD ""))).map Sho.tx).map V.str)))→Iv_ShoB_0 n H hd ts fs a ys a0 p0 a3 p1 i σ H'
def yE (K:Frag):TS:=zS (tCB (fun xs H Q=>(∃ x,xs=[V.str x]∧Q (V.str x) H)∨∃ i,xs=[V.int i]∧i.natAbs.log2<1920∧Q (V.str (Str.ofString (toString i))) H) (qe (tOp (rIx K) (qk 0) (tC (V.int 1))) qx))
def yD (K:Frag) (n:Nat):TS:=vo (tBM K "list" Wn (qk 2) (qe (qI (spMem K n) [] E0 (qe (qk 4) (qe (qk 5) qx))) qx))
def yC (K:Frag) (n:Nat):TS:=vo (tBM K "list" vd (qk 2) (qe (qI (spTh K n true) [] E0 (qe (qk 4) (qe (qk 5) qx))) qx))
def yB (K:Frag) (n:Nat):TS:=zO (qc9 (qW (tOp (rIn K false) (qk 1) (tGT K Sho.opened))) (qW (tOp rEq (qk 5) (tOp (rIx K) (qk 3) (tUn (rU fun i=>V.int (-i)) (tC (V.int 1))))))) (yD K n) (yC K n)
def yA (K:Frag):TS:=zS (tOp zk (tOp zk (tC (V.str "(")) (tBM K "str" (qdy K) (tC (V.str " ")) (qe (qk 2) qx))) (tC (V.str ")")))
def yz (K:Frag) (n:Nat):TS:=qO (Qa (qhk K (qe (tSl (Qn K) (qk 0) (WJ (tC (V.int 1))) VF) (qe (qk 3) qx))) (XI K 2 (Jk (qE 4) (Jk (qE 5) ZM))) (yB K n)) (yA K)
def yx (K:Frag) (n:Nat):TS:=qO (zF (Zc K Tre.forms (qk 1)) (qE 3)) (yz K n)
def yw (K:Frag) (n:Nat):TS:=qO (zF (tIf (qW (tOp rEq (qk 1) (tC (V.str "two")))) (jz qx) (jz (qe (qk 1) qx))) (qE 2)) (yx K n)
def yu (K:Frag) (n:Nat):TS:=qO (zO (qW (tOp (rIn K false) (qk 1) (Jm (qe (tC (V.str "number")) (qe (tC (V.str "name")) qx))))) (yE K) zn) (yw K n)
theorem yS (F:Fun K "shown_part" "shown_part" Jp f fd) (c:Cs K mg ad) (T:Tb P w K mg) (T2:Tb2 K mg) (n:Nat) (d_shown_thing:Def P w K mg base (4*n+4) "shown_thing" ["thing","shape"] (spTh K n true)) (d_shown_members:Def P w K mg base (4*n+3) "shown_members" ["things","shape"] (spMem K n)):
  FnOk P w K mg base CX0 (4*n+5) f fd ["part"] (spPart K (n+1)):=by
 refine F.ok (k:=4*n+4) z9 (fun vs H Q E h=>?_) (fun cdv A outer s H vs Q E hr h=>?_)
 ·obtain ⟨x,d,s,t,rfl,_⟩:=h;rfl
 obtain ⟨x,d,s,t,rfl,hk,tr,hs,ht,q⟩:=h;refine ⟨_,(qc (pst 1 z9.nd (pix K (pv 0) qd))
   (qc (qD (qq (vR (K:=K) rfl) (pv 1) (qB (qa qg (qa qg qb))) rfl) (qf (qr (qM qdb (by rfl) c.str_ vU (qa (pix K (pv 0) qd) qb)))) qt)
   (qc (pst 2 z9.nd (vK (qq qT (pv 1) qg (qw _)) (qJ qb) (qJ (qa (pv 1) qb))))
   (qc (pst 3 z9.nd (JI (K:=K) rfl T.FORMS (pv 1) (fun _ _=>rfl)))
   (qc (JO C3 rfl (Qq (K:=K) rfl c.zip_ (qa (zV (wQ (K:=K) rfl) (pv 0) (ju qd) jM) (qa (pv 3) qb))) (Zr (K:=K) (n:=2) rfl rfl (jm (pgn 4 z9.nd) (jm (pgn 5 z9.nd) VJ))) (qf (qD (PW.pt (Vq (qq (vR (K:=K) rfl) (pv 1) (VM T2.OPEN_ENDED) rfl) (ve (qq qT (pv 5) (pix K (pv 3) (qag Y9 qd)) (qw _))))) (qf (zP (vw (K:=K) rfl By PySem.F.slot_list_extend PySem.F.type_list_extend wg (pv 2) (qa (pdf d_shown_members (qa (pv 4) (qa (pv 5) qb))) qb)))) (qf (zP (vw (K:=K) rfl By Ck Cl jG (pv 2) (qa (pdf d_shown_thing (qa (pv 4) (qa (pv 5) qb))) qb)))))))
   (qf (qr (qo qA (qo qA qg (vw (K:=K) rfl Cg Dp Dq (yf (K:=K) rfl) qg (qa (pv 2) qb))) qg)))))))),?_⟩
 show qO (zF (tOp (rIx K) (qk 0) (tC (V.int 0))) (qE 1)) (yu K n) _ _ _;have tr0:=tr;refine tr0.el fun sh hands s0 t0 es et hf tl=>?_;obtain ⟨hd,ts,fs,l,rfl,_,_,e,h5,hl,hsh,_⟩:=Tre.qK hf;have ef:=A5 e;refine hk.tp1 fun a ys ex hq rs=>?_;subst ex;have hys:=rs.length;refine qv fun D2 h2 r2=>⟨_,rfl,.inr (.inl ⟨a,_,0,_,rfl,rfl,hq,ql (j:=0) rfl,h2 _ _ (qv fun D3 h3 r3=>qZ fun B b1 b2=>⟨_,rfl,(O0:2≤Af),fun q2 hq2=>⟨q2,_,rfl,.inr (SqT.of upd_same),rfl,rfl,_,rfl,?_⟩⟩)⟩)⟩;have g0:=qh hq2 (.tup [.str "number",.str "name"]);generalize upd H q2 (.tup [.str "number",.str "name"])=H0 at g0 ⊢;have e0:inV (.str hd) [.str "number",.str "name"]=(hd=="number"||hd=="name"):=wo _ _ _;rw [if_neg Ai,e0]
 by_cases cc:(hd=="number"||hd=="name")=true
 ·refine bP cc (b1 _ ?_);obtain ⟨z,r,rfl,hz⟩:=Sho.part_first e hl hsh cc;refine rs.ct fun y ys' ey ry _=>?_;subst ey;have pl:Sho.Pl z:=by
   rcases hz with hz | hz
   ·have e3:Tre.qi z "number"=Tre.zZ z:=rfl;rw [e3] at hz;cases z with
    | int i=>exact .int hz
    | _=>cases hz
   ·obtain ⟨y,rfl,hy⟩:=Tre.zR hz;refine .str (Sho.name_nb hy) ?_;have w:y.length+1+0≤9:=Sho.name_wl hy;omega
  refine ⟨_,rfl,.inr (.inl ⟨a,_,1,_,rfl,rfl,g0.sqT hq,ql (j:=1) rfl,qd7 pl (ry.same g0) (r3 _ _ ?_)⟩)⟩;have q1:=q H0 g0;rw [Sho.wP_part,if_pos cc] at q1;rw [show ((z::r).headD PyData.none)=z from rfl,Sho.tx_one] at q1;exact q1
 refine bN (Bs.mpr cc) (b2 _ (h3 _ _ ?_));obtain ⟨_,_,th⟩:=Sho.things_of tr hs ht cc e;obtain ⟨fn0,ofm⟩:=Xn _ ef;generalize ea:(if (hd=="two")=true then ([]:List (List Str)) else [[hd]])=a0
 refine qv fun D4 h4 r4=>?_;have cont:∀ p0,H0 p0=none→D4.nx [some (.ref a),some (.str hd),some (.ref p0),none,none,none] (upd H0 p0 (.lst ((a0.map Sho.tx).map V.str))):=fun p0 hp0=>h4 _ _ ?_
 ·refine ⟨_,rfl,rfl,_,rfl,?_⟩
  by_cases c2:(hd=="two")=true
  ·rw [if_pos c2] at ea;subst ea;exact zp (deq (Az.mp c2)) ⟨(O0:0≤Af),fun p0 hp0=>cont p0 hp0⟩
  ·rw [if_neg c2] at ea;subst ea;exact zh (dne fun z=>c2 (Az.mpr z)) ⟨_,rfl,(O0:1≤Af),fun p0 hp0=>cont p0 hp0⟩
 clear h4 r4 D4;have n0:H p0=none:=Dx.mpr fun o ho=>by rw [g0 _ _ ho] at hp0;cases hp0
 have g1:=g0.trans (qh hp0 (.lst ((a0.map Sho.tx).map V.str)));have hw1:upd H0 p0 (.lst ((a0.map Sho.tx).map V.str)) p0=some (.lst ((a0.map Sho.tx).map V.str)):=upd_same;generalize upd H0 p0 (.lst ((a0.map Sho.tx).map V.str))=H1 at g1 hw1 ⊢;refine ⟨_,rfl,hd,fs,rfl,e,fun a3 ha3=>?_⟩;refine ⟨_,rfl,_,rfl,.inr (.inr ⟨a,_,rfl,g1.sqT hq,Wu _ _,fun p1 hp1=>?_⟩)⟩;rw [qfm];have n1:H p1=none:=Dx.mpr fun o ho=>by rw [g1 _ _ ho] at hp1;cases hp1
 have g2:=g1.trans (qh hp1 (.tup ys));have n01:p0≠p1:=qC hw1 hp1;have hw2:upd H1 p1 (.tup ys) p0=some (.lst ((a0.map Sho.tx).map V.str)):=by rw [qu n01];exact hw1
 have hy2:upd H1 p1 (.tup ys) p1=some (.tup ys):=upd_same;generalize upd H1 p1 (.tup ys)=H2 at g2 hw2 hy2 ⊢;have big0:∀ i,(a0++((ts.zip fs).take i).flatMap (Sho.itm (Sho.wP n) hd (fs.getLastD ""))).length≤1+12*i:=fun i=>by
  have z:=Tre.Wt (Sho.itm (Sho.wP n) hd (fs.getLastD "")) 12 ((ts.zip fs).take i) fun p hp=>qat (th p (Ce hp)) ofm _;have z2:a0.length≤1:=by
   rw [← ea];split <;> simp
  have z3:=Bz i (ts.zip fs);rw [Ak];have z4:12*((ts.zip fs).take i).length≤12*i:=Nat.mul_le_mul_left _ z3;omega
 refine ⟨_,rfl,p1,a3,rfl,⟨ys,SqT.of hy2⟩,⟨_,ha3 _⟩,?_⟩;refine wu ts.length (Iv_ShoB_0 n H hd ts fs a ys a0 p0 a3 p1) ?_ (fun i σ H3 hi h=>?_) (fun σ H3 h=>?_)
 ·refine ⟨none,none,rfl,g2,hy2,?_⟩;rw [List.take_zero,List.flatMap_nil,Bi];exact hw2
 ·obtain ⟨o4,o5,rfl,g3,hy3,hw3⟩:=h;obtain ⟨yi,hx⟩:=vj (l:=ys) (i:=i) ⋯;obtain ⟨u,hfi⟩:=vj (l:=fs) (i:=i) ⋯;have hy:(fs.map V.str)[i]?=some (.str u):=by rw [Bq,hfi];rfl
  refine ⟨⟨ys,_,_,_,SqT.of hy3,ha3 _,hx,hy⟩,fun v H4 yl D' hn _=>?_⟩;obtain ⟨q1,xx,yy,hq1,rfl,e1,e2,rfl⟩:=yl;cases hx.symm.trans (e1 ys (SqT.of hy3));cases hy.symm.trans (e2 _ (ha3 _));obtain ⟨d,hd',rd⟩:=rs.get hx;have hm:(ts.zip fs)[i]?=some (d,u):=C6.mpr ⟨hd',hfi⟩;have thd:=th _ (Bx hm);have bg:=big0 i;have bg2:=qat thd ofm (Sho.wP n);have g4:=qh hq1 (.tup [yi,.str u]);have hy4:=g4 _ _ hy3;have hw4:=g4 _ _ hw3;have g34:=g3.trans g4;refine ⟨q1,_,rfl,SqT.of upd_same,rfl,_,_,rfl,_,_,rfl,rfl,?_⟩;generalize upd H3 q1 (.tup [yi,.str u])=H4 at hy4 hw4 g34 ⊢;have fin:∀ (H5:Hp),qy H H5→H5 p1=some (.tup ys)→H5 p0=some (.lst (((a0++((ts.zip fs).take i).flatMap (Sho.itm (Sho.wP n) hd (fs.getLastD ""))).map Sho.tx).map V.str++((Sho.itm (Sho.wP n) hd (fs.getLastD "") (d,u)).map Sho.tx).map V.str))→D'.nx [some (.ref a),some (.str hd),some (.ref p0),some (.ref a3),some yi,some (.str u)] H5:=fun H5 g5 h5 h6=>hn _ _ ⟨_,_,rfl,g5,h5,by
   rw [Qc hm,A1];exact h6⟩
  clear hn;have ap:∀ (cnd:¬ (Sho.opened.contains hd&&u==fs.getLastD "")=true),(Sho.itm (Sho.wP n) hd (fs.getLastD "") (d,u))=[Sho.wT (Sho.wP n) u d]:=fun cnd=>by
   unfold Sho.itm;exact if_neg cnd
  refine qZ fun B b1 b2=>⟨_,rfl,fun a2 ha2=>⟨a2,_,rfl,.inr (ha2 _),rfl,jb _,_,rfl,?_⟩⟩;rw [if_neg Ai,jn];have app:¬ (Sho.opened.contains hd&&u==fs.getLastD "")=true→B false H4:=fun cnd=>b2 _ ?_
  ·by_cases o1:Sho.opened.contains hd=true
   ·refine zp o1 ⟨_,rfl,_,rfl,1,rfl,.inr (.inl ⟨a3,_,-1,_,rfl,rfl,ha3 _,qhg fn0,rfl,_,rfl,?_⟩)⟩
    by_cases o2:u=fs.getLastD ""
    ·refine bP (deq o2) (b1 _ ?_);have z:(Tre.members.lookup u).isSome=true:=by rw [o2];exact ofm o1
     cases thd with
     | part h _ _ _=>rw [show Tre.members.lookup (d,u).2=none from Sho.term_mem h] at z;cases z
     | plain _ h _=>rw [show Tre.members.lookup (d,u).2=none from h] at z;cases z
     | @row _ m xs hmm hl2 hx2=>
      refine ⟨_,rfl,.inl ⟨rfl,_,SqL.of hw4⟩,_,rfl,_,rfl,yi,xs,u,m,rfl,rd.same g34,hmm,hl2,hx2,fun H5 p g5 hp h5=>?_⟩;refine ⟨p0,p,_,_,rfl,rfl,g5 _ _ hw4,h5,qke ?_,?_⟩
      ·rw [Ah,Ah,Ah,Ah];omega
      refine fin _ (zo (g34.trans g5) n0 _) ?_ ?_
      ·rw [qu (Ne.symm n01)];exact g5 _ _ hy4
      ·rw [upd_same];unfold Sho.itm;rw [if_pos (by rw [o1,B0];exact Az.mpr o2)]
       unfold Sho.mem;rw [show Tre.members.lookup (PyData.tuple xs,u).2=_ from hmm,Bv (f:=Sho.wT0 _ _)];rfl
    ·exact bN (dne o2) (app fun z=>by rw [Al,Az] at z;exact o2 z.2)
   ·exact zh (Bs.mpr o1) (app fun z=>by rw [Al] at z;exact o1 z.1)
  refine ⟨_,rfl,.inl ⟨rfl,_,SqL.of hw4⟩,_,rfl,_,rfl,yi,d,u,rfl,rd.same g34,thd,fun H5 g5=>?_⟩;refine ⟨p0,_,_,rfl,rfl,g5 _ _ hw4,qgf ?_,?_⟩
  ·rw [Ah,Ah];omega
  refine fin _ (zo (g34.trans g5) n0 _) ?_ ?_
  ·rw [qu (Ne.symm n01)];exact g5 _ _ hy4
  ·rw [upd_same,ap cnd];rfl
 ·obtain ⟨o4,o5,rfl,g3,hy3,hw3⟩:=h;refine ⟨⟨ys,_,SqT.of hy3,ha3 _,.inl ⋯⟩,?_⟩;have ei:Sho.items (Sho.wP n) hd ts=a0++((ts.zip fs).take ts.length).flatMap (Sho.itm (Sho.wP n) hd (fs.getLastD "")):=by
   unfold Sho.items;rw [e,ea,C5 (by rw [Dd];omega)]
   rfl
  have bg:=big0 ts.length;rw [← ei] at hw3 bg;have L1:=Sho.sum_wls (Sho.items (Sho.wP n) hd ts);have L2:=Sho.items_len tr hs ht cc;have L3:=Sho.tx_le (Aw (Sho.wl_part (n+1) tr ht) (Nat.mul_le_mul_left 2000 hs));have q1:=q H3 g3;rw [Sho.tx_part' tr hs ht cc e] at q1 L3;refine ⟨rfl,_,rfl,_,p0,_,rfl,rfl,SqL.of hw3,?_,.inr (.inl ⟨_,_,rfl,rfl,?_,?_⟩)⟩
  ·rw [Ah];show _+_*1≤_;omega
  ·rw [X8,← Sho.len_app];rw [Sho.len_app] at L3;exact line (Aw (Aw (Nat.le_add_right _ _) L3) O0)
  rw [X8];refine .inr (.inl ⟨_,_,rfl,rfl,?_,q1⟩);rw [← Sho.len_app];exact line (Aw L3 O0)
theorem W9 {ps:List Str} {lv:Nat} {sp:Sp} (h:∀ vs H Q E,¬ sp vs H Q E):FnOk P w K mg base CX0 lv f fd ps sp:=⟨fun _ _ _ _ z=>(h _ _ _ _ z).elim,fun _ _ _ _ _ _ _ _ _ _ _ _ _ z=>(h _ _ _ _ z).elim⟩
theorem qkf {fT fM fP:Ac} {dT dM dP:FuncData} (FT:Fun K "shown_thing" "shown_thing" j6 fT dT) (FM:Fun K "shown_members" "shown_members" zT fM dM) (FP:Fun K "shown_part" "shown_part" Jp fP dP) (kT:Known K mg "shown_thing" ["thing","shape"] fT dT)
  (kM:Known K mg "shown_members" ["things","shape"] fM dM) (kP:Known K mg "shown_part" ["part"] fP dP) (c:Cs K mg ad) (T:Tb P w K mg) (T2:Tb2 K mg):
  ∀ n:Nat,Def P w K mg base (4*n+1) "shown_part" ["part"] (spPart K n)∧Def P w K mg base (4*n+3) "shown_members" ["things","shape"] (spMem K n)∧Def P w K mg base (4*n+4) "shown_thing" ["thing","shape"] (spTh K n true):=by
 have up:∀ n,Def P w K mg base (4*n+1) "shown_part" ["part"] (spPart K n)→Def P w K mg base (4*n+1) "shown_part" ["part"] (spPart K n)∧Def P w K mg base (4*n+3) "shown_members" ["things","shape"] (spMem K n)∧Def P w K mg base (4*n+4) "shown_thing" ["thing","shape"] (spTh K n true):=fun n p=>by
  have t0:=kT.out (vL FT c T false n (4*n+1) 0 (Ax _) (Bm _) _ (fun z=>by cases z) p (kM.out Wq))
  have m:=kM.out (we FM c T n t0);exact ⟨p,m,kT.out (vL FT c T true n (4*n+3) (4*n+3) ⋯ (Ax _) _ (fun _=>rfl) p m)⟩
 intro n
 induction n with
 | zero=>exact up 0 (kP.out (W9 fun vs H Q E ⟨x,d,s,t,_,_,tr,_,ht,_⟩=>tr.el fun _ _ _ _ _ et _ _=>⋯))
 | succ n ih=>exact up (n+1) (kP.out (yS FP c T T2 n ih.2.2 ih.2.1))
inductive spShown (K:Frag) (vs:List V) (H:Hp) (Q:VK) (E':XK):Prop
 | mk:∀ x d s t,(vs=[x])→(Rep K H x d)→(Tre.fit d=true)→(Tre.zJ d=true)→(Tre.Tr d s t)→(s≤300)→(t≤20)→(∀ H',qy H H'→Q (.str (Sho.tx (Sho.wP 20 d))) H')→spShown K vs H Q E'
theorem qeh (F:Fun K "shown" "shown" Xj f fd) (c:Cs K mg ad) (d_need_program:Def P w K mg base 6 "need_program" ["thing"] (spNeed K)) (d_shown_part:Def P w K mg base 81 "shown_part" ["part"] (spPart K 20)):FnOk P w K mg base CX0 82 f fd ["program"] (spShown K):=by
 refine F.ok (k:=81) qdq (fun vs H Q E h=>?_) (fun cdv A outer s H vs Q E hr h=>?_)
 ·obtain ⟨x,d,s,t,rfl,_⟩:=h;rfl
 obtain ⟨x,d,s,t,rfl,hk,hf,hp,tr,hs,ht,q⟩:=h;refine ⟨_,(qc (zP (pdf d_need_program (qa (pv 0) qb)))
   (qf (qr (pdf d_shown_part (qa (pv 0) qb))))),?_⟩
 refine ⟨_,rfl,x,d,rfl,hk,hf,hp,fun H1 g1=>?_⟩;exact ⟨_,rfl,x,d,s,t,rfl,hk.same g1,tr,hs,ht,fun H2 g2=>q H2 (g1.trans g2)⟩
inductive spHead (K:Frag) (vs:List V) (H:Hp) (Q:VK) (E':XK):Prop
 | mk:∀ x sh,(vs=[.str x,.str sh])→((Tre.heads.lookup sh).isSome=true)→(Q (.bl (Sho.isHead x sh)) H)→spHead K vs H Q E'
theorem Qy (F:Fun K "is_head" "is_head" V9 f fd) (c:Cs K mg ad) (T:Tb P w K mg) (T2:Tb2 K mg):FnOk P w K mg base CX0 1 f fd ["word","shape"] (spHead K):=by
 refine F.ok Ql (fun vs H Q E h=>?_) (fun cdv A outer s H vs Q E hr h=>?_)
 ·obtain ⟨x,sh,rfl,_⟩:=h;rfl
 obtain ⟨x,sh,rfl,hs,q⟩:=h;refine ⟨_,(qc (qD (qq (vR (K:=K) rfl) (pv 0) (VM T.SIGNS) rfl) (qf (qr (zf qT (pv 1) qg (qw _)))) qt)
   (qf (qr (wc (zf (vR (K:=K) rfl) (pv 0) (JI (K:=K) rfl T.HEADS (pv 1) (fun _ _=>rfl)) rfl) (JA (zf (qek (K:=K) rfl) (pv 0) (VM T2.UNWRITTEN) rfl)))))),?_⟩
 refine qv fun D2 h2 r2=>qZ fun B b1 b2=>⟨_,rfl,fun a2 ha2=>⟨a2,_,rfl,.inr (ha2 _),rfl,jb _,_,rfl,?_⟩⟩;rw [if_neg Ai,jn];unfold Sho.isHead at q
 by_cases g:Tre.signs.contains x=true
 ·refine bP g (b1 _ ⟨_,rfl,rfl,r2 _ _ ?_⟩);rw [if_pos g] at q;have e:decide (V.str sh=V.str "term")=(sh=="term"):=by
   rw [B5,Bk,Az];exact ⟨V.str.inj,congrArg V.str⟩
  show Q (.bl (decide (V.str sh=V.str "term"))) H;rw [e];exact q
 ·refine bN (Bs.mpr g) (b2 _ (h2 _ _ ?_));rw [if_neg g] at q;obtain ⟨l,hl⟩:=Cz.mp hs;rw [hl] at q;refine ⟨_,rfl,_,rfl,sh,l,rfl,hl,fun a3 ha3=>⟨a3,_,rfl,.inr (ha3 _),rfl,jb _,_,rfl,?_⟩⟩;rw [if_neg Ai,jn];have q':Q (.bl (l.contains x&&!Sho.unwritten.contains x)) H:=q
  by_cases h:l.contains x=true
  ·refine zp h ⟨_,rfl,fun a4 ha4=>⟨a4,_,rfl,.inr (ha4 _),rfl,jb _,?_⟩⟩;rw [if_pos rfl,jn];rw [h,B0] at q';exact q'
  ·have h':=Bs.mpr h;refine zh h' ?_;rw [h',B3] at q';exact q'
inductive spBehind (K:Frag) (vs:List V) (H:Hp) (Q:VK) (E':XK):Prop
 | mk:∀ h k s,(vs=[.str h,.int (k:Nat)])→((Tre.signs.contains h=true∨(Tre.forms.lookup h).isSome=true))→(Sho.behind h k=some s)→(∀ H',qy H H'→Q (.str s) H')→spBehind K vs H Q E'
theorem qln (y:Str) (ys:List Str):jf ((y::ys).map V.str) (some 1) none=ys.map V.str:=qfm _ _
theorem qe6:∀ p∈Tre.forms,p.2≠[]:=∅
theorem qhh {l:List Str} (h:l≠[]):(l.map V.str)[l.length - 1]?=some (.str (l.getLastD "")):=by
 obtain ⟨r,x,rfl⟩:∃ r x,l=r++[x]:=⟨l.dropLast,l.getLast h,(List.dropLast_concat_getLast h).symm⟩;rw [List.getLastD_eq_getLast?,Dw,Ak,A1];simp
theorem wV (F:Fun K "shape_behind" "shape_behind" Ju f fd) (c:Cs K mg ad) (T:Tb P w K mg) (T2:Tb2 K mg):FnOk P w K mg base CX0 1 f fd ["head","place"] (spBehind K):=by
 refine F.ok Jh (fun vs H Q E h=>?_) (fun cdv A outer s H vs Q E hr h=>?_)
 ·obtain ⟨h,k,s,rfl,_⟩:=h;rfl
 obtain ⟨h,k,s,rfl,hh,hb,q⟩:=h;refine ⟨_,(qc (pst 2 Jh.nd (vK (qq (vR (K:=K) rfl) (pv 0) (VM T.SIGNS) rfl) (zV (wQ (K:=K) rfl) (JI (K:=K) rfl T.FORMS qg (fun _ _=>rfl)) (ju qd) jM) (JI (K:=K) rfl T.FORMS (pv 0) (fun _ _=>rfl))))
   (qc (pst 3 Jh.nd (qo zd (qz (zN (K:=K) rfl) (by rfl) c.len_ ze (qa (pv 2) qb)) qd))
   (qc (qD (PW.pt (Vq (qq (vR (K:=K) rfl) (pv 0) (VM T2.OPEN_ENDED) rfl) (ve (qq qk0 (pv 1) (pv 3) (qw _))))) (qf (qr (Wp T.MEMBERS (pix K (pv 2) (pv 3)) (fun _ _=>rfl)))) qt)
   (qf (qr (vK (qq W4 (pv 1) (pv 3) (qw _)) (pix K (pv 2) (pv 1)) W0)))))),?_⟩
 refine qv fun D2 h2 r2=>?_;have cont:∀ a3 H1,qy H H1→SqT K H1 a3 ((Sho.fsOf h).map V.str)→Sho.fsOf h≠[]→D2.nx [some (.str h),some (.int (k:Nat)),some (.ref a3),none] H1:=fun a3 H1 g1 hq hne=>h2 _ _ ?_
 ·refine ⟨_,rfl,fun a2 ha2=>⟨a2,_,rfl,.inr (ha2 _),rfl,jb _,_,rfl,?_⟩⟩;rw [if_neg Ai,jn]
  by_cases g:Tre.signs.contains h=true
  ·have e:Sho.fsOf h=(["term","term"]:List Str):=by unfold Sho.fsOf;rw [if_pos g]
   refine zp g ⟨("two":Str),(["sign","term","term"]:List Str),rfl,∅,fun a3 ha3=>⟨_,rfl,.inr (.inr ⟨a3,_,rfl,ha3 _,Wu _ _,fun p hp=>?_⟩)⟩⟩;refine cont p _ (qh hp _) (SqT.of ?_) ?_
   ·rw [e,upd_same];exact congrArg (fun z=>some (HO.tup z)) (qln "sign" ["term","term"])
   ·rw [e];exact Ef _ _
  ·have hs:=hh.resolve_left g;obtain ⟨fs,hf⟩:=Cz.mp hs;have e:Sho.fsOf h=fs:=by unfold Sho.fsOf;rw [if_neg g,hf];rfl
   refine zh (Bs.mpr g) ⟨_,rfl,h,fs,rfl,hf,fun a3 ha3=>cont a3 _ (qy.refl _) ?_ ?_⟩
   ·rw [e];exact ha3 _
   ·rw [e];exact qe6 _ (A5 hf)
 clear h2 r2 D2;have hpos:0<(Sho.fsOf h).length:=Dh.mpr hne;refine ⟨_,rfl,_,_,rfl,.inr ⟨_,hq,rfl⟩,_,_,rfl,rfl,?_⟩;dsimp only;rw [Ah];have el:(((Sho.fsOf h).length:Nat):Int) - 1=(((Sho.fsOf h).length - 1:Nat):Int):=⋯;rw [el];refine qv fun D2 h2 r2=>qZ fun B b1 b2=>⟨_,rfl,fun a2 ha2=>⟨a2,_,rfl,.inr (ha2 _),rfl,jb _,_,rfl,?_⟩⟩;rw [if_neg Ai,jn];unfold Sho.behind at hb;have els:¬ (Sho.opened.contains h&&decide ((Sho.fsOf h).length - 1≤k))=true→B false H1:=fun cnd=>b2 _ (h2 _ _ ?_)
 ·by_cases o1:Sho.opened.contains h=true
  ·refine zp o1 ⟨_,rfl,_,rfl,_,_,rfl,rfl,_,rfl,?_⟩
   by_cases o2:(Sho.fsOf h).length - 1≤k
   ·rw [o1,An o2,if_pos (show (true&&true)=true from rfl)] at hb;refine bP (An ⋯) (b1 _ ⟨_,rfl,_,rfl,.inr (.inl ⟨a3,_,_,_,rfl,rfl,hq,ql (qhh hne),_,s,rfl,hb,r2 _ _ (q H1 g1)⟩)⟩)
   ·exact bN (Ar ⋯) (els fun z=>by rw [Al,Bk] at z;exact o2 z.2)
  ·exact zh (Bs.mpr o1) (els fun z=>by rw [Al] at z;exact o1 z.1)
 rw [if_neg cnd] at hb;have hk:k<(Sho.fsOf h).length:=(Cf.mp hb).1;refine ⟨_,rfl,_,rfl,_,_,rfl,rfl,_,rfl,zp (An ⋯) ⟨_,rfl,_,rfl,.inr (.inl ⟨a3,_,_,_,rfl,rfl,hq,ql (j:=k) ?_,q H1 g1⟩)⟩⟩;rw [Bq,hb];rfl
end
end Mine
namespace L2
open PySem PySem.Spec PyProof.Rows
section
variable {K:Frag} {H H':Hp}
def Tp (H H':Hp):Prop:=∀ b xs,Rd H b (.tup xs)→Rd H' b (.tup xs)
def notT:HO→Bool
 | .tup _=>false
 | .frz _ _=>false
 | _=>true
theorem Tp.refl (H:Hp):Tp H H:=fun _ _ h=>h
theorem Tp.trans {H2:Hp} (a:Tp H H') (b:Tp H' H2):Tp H H2:=fun c o e=>b c o (a c o e)
theorem Tp.of (g:qy H H'):Tp H H':=fun b xs h=>by
 rcases h with h | ⟨o,h⟩
 ·exact .inl (g _ _ h)
 ·exact .inr ⟨o,g _ _ h⟩
theorem Tp.put {p:Ac} {o o':HO} (hp:H p=some o) (n:notT o=true):Tp H (upd H p o'):=fun b xs h=>by
 have nb:b≠p:=fun z=>by
  subst z;rcases h with h | ⟨ob,h⟩
  ·rw [hp] at h;cases h;cases n
  ·rw [hp] at h;cases h;cases n
 unfold Rd;rw [qu nb];exact h
theorem SqT.tp {b:Ac} {xs:List V} (g:Tp H H') (h:SqT K H b xs):SqT K H' b xs:=by
 rcases h with h | h
 ·exact .inl (g _ _ h)
 ·exact .inr h
theorem Rep.tp (g:Tp H H') {x:V} {d:Aa} (h:Rep K H x d) (n:Tre.noL d=true):Rep K H' x d:=h.tups (fun h=>h.tp g) n
theorem Reps.tp (g:Tp H H') {xs:List V} {ds:List Aa} (h:Reps K H xs ds) (n:Tre.zY ds=true):Reps K H' xs ds:=h.tups (fun h=>h.tp g) n
end
end L2
namespace Mine
open PySem L2
structure OA where
 p:Ac
 l:Ac
def oFl (sh:Str) (l:Ac):List (Str×V):=[("shape",.str sh),("things",.ref l)]
theorem vN (sh:Str) (l:Ac):(oFl sh l).lookup ("shape":Str)=some (.str sh):=rfl
theorem zj (sh:Str) (l:Ac):(oFl sh l).lookup ("things":Str)=some (.ref l):=by rfl
theorem qg5 (sh:V) (l:V):vf "things" l (vf "shape" sh [])=([("shape",sh),("things",l)]:List (Str×V)):=by rfl
structure OpAt (K:Frag) (C:Ac) (H:Hp) (x:OA) (o:Sho.Op):Prop where
 ob:∃ dx,H x.p=some (.ins C dx (oFl o.sh x.l))
 ls:∃ vs,H x.l=some (.lst vs)∧Reps K H vs o.ts
 nl:Tre.zY o.ts=true
theorem OpAt.same {K:Frag} {C:Ac} {H H':Hp} {x:OA} {o:Sho.Op} (g:qy H H') (h:OpAt K C H x o):OpAt K C H' x o:=by
 obtain ⟨⟨dx,a⟩,⟨vs,b,r⟩,n⟩:=h;exact ⟨⟨dx,g _ _ a⟩,⟨vs,g _ _ b,r.same g⟩,n⟩
section
variable {P:Program} {w:World} {K:Frag} {mg:Str→Option Ab} {base:Heap} {f:Ac} {fd:FuncData} {ad:Ad}
inductive spOini (C:Ac) (vs:List V) (H:Hp) (Q:VK) (E':XK):Prop
 | mk:∀ p sh dx,(vs=[.ref p,.str sh])→(H p=some (.ins C dx []))→(∀ H' l,(∀ b u,b≠p→H b=some u→H' b=some u)→H l=none→H' l=some (.lst [])→H' p=some (.ins C dx (oFl sh l))→Q .non H')→spOini C vs H Q E'
theorem qbz (F:Fun K "__init__" "Opening.__init__" WT f fd) (c:Cs K mg ad):FnOk P w K mg base CX0 1 f fd ["self","shape"] (spOini ad.Opening):=by
 refine F.ok qbs (fun vs H Q E h=>?_) (fun cdv A outer s H vs Q E hr h=>?_)
 ·obtain ⟨p,sh,dx,rfl,_⟩:=h;rfl
 obtain ⟨p,sh,dx,rfl,hp,q⟩:=h;refine ⟨_,(qc (qd5 (pv 0) (pv 1) rfl)
   (qf (qd5 (pv 0) (qJ qb) rfl))),?_⟩
 refine ⟨_,rfl,_,rfl,p,_,dx,_,rfl,hp,c.cl,c.aS,O0,?_⟩;refine ⟨O0,fun l hl=>?_⟩;have nl:p≠l:=qC upd_same hl;refine ⟨_,rfl,p,_,dx,vf "shape" (.str sh) [],rfl,(by rw [qu nl];exact upd_same),c.cl,c.aT,(show (1:Nat)<1000 from O0),?_⟩
 have hl0:H l=none:=by rw [qu (Ne.symm nl)] at hl;exact hl
 refine q _ l (fun b u hb h=>?_) hl0 ?_ ?_
 ·rw [qu hb,qu (qC h hl0),qu hb];exact h
 ·rw [qu (Ne.symm nl)];exact upd_same
 ·rw [qg5];exact upd_same
inductive spWant (K:Frag) (C:Ac) (vs:List V) (H:Hp) (Q:VK) (E':XK):Prop
 | mk:∀ x o s,(vs=[.ref x.p])→(OpAt K C H x o)→(Sho.OpOk o)→(Sho.wanted o=some s)→(∀ H',qy H H'→Q (.str s) H')→spWant K C vs H Q E'
theorem Zy (F:Fun K "wanted" "Opening.wanted" Vo f fd) (c:Cs K mg ad) (T:Tb P w K mg) (d_shape_behind:Def P w K mg base 1 "shape_behind" ["head","place"] (spBehind K)):FnOk P w K mg base CX0 2 f fd ["self"] (spWant K ad.Opening):=by
 refine F.ok Zk (fun vs H Q E h=>?_) (fun cdv A outer s H vs Q E hr h=>?_)
 ·obtain ⟨x,o,s,rfl,_⟩:=h;rfl
 obtain ⟨x,o,s,rfl,⟨⟨dx,ob⟩,⟨vs,hl,rs⟩,nl⟩,ok,hw,q⟩:=h;refine ⟨_,(qc (qD (qq qT (je (pv 0) rfl) qg (qw _)) (qf (qr qg)) qt)
   (qc (qD (Qo (W3 T.MEMBERS c.ns_MEMBERS (je (pv 0) rfl))) (qf (qr (Wp T.MEMBERS (je (pv 0) rfl) (fun _ _=>rfl)))) qt)
   (qc (qD (qq qT (qz (zN (K:=K) rfl) (by rfl) c.len_ ze (qa (je (pv 0) rfl) qb)) qd (qw _)) (qf (qr qg)) qt)
   (qf (qr (pdf d_shape_behind (qa (pix K (je (pv 0) rfl) qd) (qa (qo zd (qz (zN (K:=K) rfl) (by rfl) c.len_ ze (qa (je (pv 0) rfl) qb)) qd) qb)))))))),?_⟩
 have q0:=q H (qy.refl _);refine qv fun D2 h2 r2=>qZ fun B b1 b2=>⟨_,rfl,x.p,_,dx,_,_,rfl,ob,c.cl,c.aS,vN _ _,rfl,_,rfl,?_⟩
 by_cases h0:o.sh="text"
 ·have e:s="program":=by
   unfold Sho.wanted at hw;rw [if_pos (Az.mpr h0)] at hw;exact (Bb hw).symm
  subst e;exact bP (deq h0) (b1 _ (r2 _ _ q0))
 refine bN (dne h0) (b2 _ (h2 _ _ (qv fun D3 h3 r3=>qZ fun B b1 b2=>⟨_,rfl,x.p,_,dx,_,_,rfl,ob,c.cl,c.aS,vN _ _,_,rfl,_,rfl,?_⟩)));have hw2:(match Tre.members.lookup o.sh with
  | some m=>some m
  | none=>match o.ts with
   | []=>some ("head":Str)
   | .str h::r=>Sho.behind h r.length
   | _=>none)=some s:=by
  unfold Sho.wanted at hw;rw [if_neg (fun z=>h0 (Az.mp z))] at hw;exact hw
 cases em:Tre.members.lookup o.sh with
 | some m=>
  rw [em] at hw2;cases hw2;exact bP rfl (b1 _ ⟨_,rfl,x.p,_,dx,_,_,rfl,ob,c.cl,c.aS,vN _ _,o.sh,_,rfl,em,r3 _ _ q0⟩)
 | none=>
  rw [em] at hw2;refine bN rfl (b2 _ (h3 _ _ (qv fun D4 h4 r4=>qZ fun B b1 b2=>⟨_,rfl,x.p,_,dx,_,_,rfl,ob,c.cl,c.aT,zj _ _,_,_,rfl,.inl ⟨_,SqL.of hl,rfl⟩,rfl,_,rfl,?_⟩)));have hlen:=rs.length;cases ok with
  | text=>exact absurd rfl h0
  | row h=>rw [em] at h;cases h
  | new h=>
   cases hw2;refine bP (An ?_) (b1 _ (r4 _ _ q0));rw [hlen];rfl
  | @part sh h r h1 h3'=>
   have hw3:Sho.behind h r.length=some s:=hw2;refine bN (Ar fun z=>?_) (b2 _ (h4 _ _ ?_))
   ·have:=V.int.inj z;rw [hlen,Aj] at this;omega
   refine rs.ct fun y ys ey ry ry'=>?_;subst ey;obtain rfl:=ry.strI;refine ⟨_,rfl,x.p,_,dx,_,_,rfl,ob,c.cl,c.aT,zj _ _,.inl ⟨x.l,_,0,_,rfl,rfl,SqL.of hl,ql (j:=0) rfl,?_⟩⟩;refine ⟨_,rfl,x.p,_,dx,_,_,rfl,ob,c.cl,c.aT,zj _ _,_,_,rfl,.inl ⟨_,SqL.of hl,rfl⟩,_,_,rfl,rfl,?_⟩;have e:(((V.str h::ys).length:Nat):Int) - 1=((r.length:Nat):Int):=by
    rw [hlen,Aj];omega
   refine ⟨h,r.length,s,?_,h3',hw3,q⟩;show [V.str h,V.int ((((V.str h::ys).length:Nat):Int) - 1)]=_;rw [e]
inductive spClosed (K:Frag) (C:Ac) (vs:List V) (H:Hp) (Q:VK) (E':XK):Prop
 | mk:∀ x o,(vs=[.ref x.p])→(OpAt K C H x o)→(Sho.OpOk o)→((o.sh=="text")=false)→(o.ts.length≤20000)→(∀ H' v,qy H H'→Rep K H' v (Sho.closed o)→Q v H')→spClosed K C vs H Q E'
theorem Yu {H:Hp}:∀ {vs:List V} {ds:List Aa} (n:Nat),Reps K H vs ds→Reps K H (vs.take n) (ds.take n)
 | _,_,0,_=> .nil
 | _,_,_+1,.nil=> .nil
 | _,_,n+1,.cons r t=> .cons r (Yu n t)
theorem Yv {H:Hp}:∀ {vs:List V} {ds:List Aa} (n:Nat),Reps K H vs ds→Reps K H (vs.drop n) (ds.drop n)
 | _,_,0,h=>h
 | _,_,_+1,.nil=> .nil
 | _,_,n+1,.cons r t=>Yv n t
theorem WW {H:Hp}:∀ {vs us:List V} {ds es:List Aa},Reps K H vs ds→Reps K H us es→Reps K H (vs++us) (ds++es)
 | _,_,_,_,.nil,h=>h
 | _,_,_,_,.cons r t,h=> .cons r (WW t h)
theorem QV (xs:List V) (n:Nat):jf xs none (some (n:Int))=xs.take n:=by
 unfold jf;rw [HT.sIx_none,HT.sIx_nat,List.drop_zero,Nat.sub_zero]
 by_cases h:n≤xs.length
 ·rw [Nat.min_eq_left h]
 ·rw [Nat.min_eq_right ⋯,C5 (Ax _),C5 ⋯]
theorem qfl (xs:List V) (n:Nat):jf xs (some (n:Int)) none=xs.drop n:=by
 unfold jf;rw [HT.sIx_none,HT.sIx_nat]
 by_cases h:n≤xs.length
 ·rw [Nat.min_eq_left h];exact C5 (by rw [Dy];exact Ax _)
 ·rw [Nat.min_eq_right ⋯,Ec (Ax _),Ec ⋯,List.take_nil]
theorem qbd:∀ p∈Tre.forms,Sho.opened.contains p.1=true→p.2.length=2:=∅
theorem Zz (F:Fun K "closed" "Opening.closed" Vp f fd) (c:Cs K mg ad) (T:Tb P w K mg) (T2:Tb2 K mg):FnOk P w K mg base CX0 1 f fd ["self"] (spClosed K ad.Opening):=by
 refine F.ok vF (fun vs H Q E h=>?_) (fun cdv A outer s H vs Q E hr h=>?_)
 ·obtain ⟨x,o,rfl,_⟩:=h;rfl
 obtain ⟨x,o,rfl,⟨⟨dx,ob⟩,⟨vs,hl,rs⟩,nl⟩,ok,nt,hz,q⟩:=h;have hlen:=rs.length;refine ⟨_,(qc (qD (PW.pt (Jc (Qo (W3 T.MEMBERS c.ns_MEMBERS (je (pv 0) rfl))) (jL (qq qT (qz (zN (K:=K) rfl) (by rfl) c.len_ ze (qa (je (pv 0) rfl) qb)) qd (qw _))))) (qf (qr (qM (jJ (K:=K) rfl) (by rfl) c.tuple_ zK (qa (je (pv 0) rfl) qb)))) qt)
   (qc (pst 1 vF.nd (pix K (je (pv 0) rfl) qd))
   (qc (qD (qq (vR (K:=K) rfl) (pv 1) (VM T.SIGNS) rfl) (qf (qr (qo (qfn (K:=K) rfl) (qB (qa qg qb)) (qM (jJ (K:=K) rfl) (by rfl) c.tuple_ zK (qa (je (pv 0) rfl) qb))))) qt)
   (qc (qD (qq (vR (K:=K) rfl) (pv 1) (VM T2.OPEN_ENDED) rfl) (qc (pst 2 vF.nd (qz (zN (K:=K) rfl) (by rfl) c.len_ ze (qa (JI (K:=K) rfl T.FORMS (pv 1) (fun _ _=>rfl)) qb)))
   (qf (qr (qo (qfn (K:=K) rfl) (qM (jJ (K:=K) rfl) (by rfl) c.tuple_ zK (qa (zV (wQ (K:=K) rfl) (je (pv 0) rfl) jM (ju (pv 2))) qb)) (qB (qa (qM (jJ (K:=K) rfl) (by rfl) c.tuple_ zK (qa (zV (wQ (K:=K) rfl) (je (pv 0) rfl) (ju (pv 2)) jM) qb)) qb)))))) qt)
   (qf (qr (qM (jJ (K:=K) rfl) (by rfl) c.tuple_ zK (qa (je (pv 0) rfl) qb)))))))),?_⟩
 refine qv fun D2 h2 r2=>qZ fun B b1 b2=>?_;refine ⟨_,rfl,x.p,_,dx,_,_,rfl,ob,c.cl,c.aS,vN _ _,_,rfl,_,rfl,?_⟩;cases em:Tre.members.lookup o.sh with
 | some m=>
  have ec:Sho.closed o= .tuple o.ts:=by
   unfold Sho.closed;rw [em];rfl
  rw [ec] at q;refine zp rfl (b1 _ ⟨_,rfl,x.p,_,dx,_,_,rfl,ob,c.cl,c.aT,zj _ _,x.l,vs,rfl,.inl ⟨SqL.of hl,fun l hl0=>r2 _ _ (q _ _ (qh hl0 _) (.tup (SqT.of upd_same) (rs.same (qh hl0 _))))⟩⟩)
 | none=>
  refine zh rfl ⟨_,rfl,x.p,_,dx,_,_,rfl,ob,c.cl,c.aT,zj _ _,_,_,rfl,.inl ⟨_,SqL.of hl,rfl⟩,rfl,_,rfl,?_⟩;cases ok with
  | text=>cases nt
  | row h=>rw [em] at h;cases h
  | @new sh h=>
   have ec:Sho.closed ⟨sh,[]⟩= .tuple []:=by
    unfold Sho.closed;split <;> rfl
   rw [ec] at q;refine bP (An ?_) (b1 _ ⟨_,rfl,x.p,_,dx,_,_,rfl,ob,c.cl,c.aT,zj _ _,x.l,vs,rfl,.inl ⟨SqL.of hl,fun l hl0=>r2 _ _ (q _ _ (qh hl0 _) (.tup (SqT.of upd_same) (rs.same (qh hl0 _))))⟩⟩);rw [hlen];rfl
  | @part sh h r h1 h3=>
   have ec:Sho.closed ⟨sh,.str h::r⟩=(if Tre.signs.contains h=true then .tuple (.str "two":: .str h::r) else if Sho.opened.contains h=true then .tuple ((.str h::r).take (Sho.fsOf h).length++[.tuple ((.str h::r).drop (Sho.fsOf h).length)]) else .tuple (.str h::r)):=by
    unfold Sho.closed;rw [em];rfl
   rw [ec] at q;refine bN (Ar fun z=>?_) (b2 _ (h2 _ _ ?_))
   ·have:=V.int.inj z;rw [hlen,Aj] at this;omega
   refine rs.ct fun y ys ey ry ry'=>?_;subst ey;obtain rfl:=ry.strI;have hz':ys.length≤20000:=by
    have z1:(V.str h::ys).length=(PyData.str h::r).length:=hlen;have z2:(PyData.str h::r).length≤20000:=hz;rw [Aj] at z1;omega
   refine qv fun D1 k1 _=>⟨_,rfl,x.p,_,dx,_,_,rfl,ob,c.cl,c.aT,zj _ _,.inl ⟨x.l,_,0,_,rfl,rfl,SqL.of hl,ql (j:=0) rfl,k1 _ _ (qv fun D2 h2 r2=>qZ fun B b1 b2=>⟨_,rfl,fun a2 ha2=>⟨a2,_,rfl,.inr (ha2 _),rfl,jb _,_,rfl,?_⟩⟩)⟩⟩;rw [if_neg Ai,jn]
   by_cases g:Tre.signs.contains h=true
   ·rw [if_pos g] at q;refine bP g (b1 _ ⟨O0,fun p hp=>?_⟩);have g1:=qh hp (.tup [.str "two"]);have e1:upd H p (.tup [.str "two"]) p=some (.tup [.str "two"]):=upd_same;have hl1:=g1 _ _ hl;have ob1:=g1 _ _ ob;generalize upd H p (.tup [.str "two"])=H1 at g1 e1 hl1 ob1 ⊢;refine ⟨_,rfl,x.p,_,dx,_,_,rfl,ob1,c.cl,c.aT,zj _ _,x.l,_,rfl,.inl ⟨SqL.of hl1,fun l hl0=>?_⟩⟩;have g2:=qh hl0 (.tup (V.str h::ys));refine ⟨p,l,_,_,rfl,rfl,SqT.of (g2 _ _ e1),SqT.of upd_same,Ef _ _,Aw (show 1+(ys.length+1)≤30000 from ⋯) O0,(fun z=>by cases z),fun _ p2 hp2=>r2 _ _ ?_⟩
    have g3:=(g1.trans g2).trans (qh hp2 (.tup ([.str "two"]++V.str h::ys)));exact q _ _ g3 (.tup (SqT.of upd_same) (.cons (.str _) (rs.same g3)))
   ·rw [if_neg g] at q;have hs:=h3.resolve_left g;obtain ⟨fs,hf⟩:=Cz.mp hs;have e:Sho.fsOf h=fs:=by unfold Sho.fsOf;rw [if_neg g,hf];rfl
    refine bN (Bs.mpr g) (b2 _ (h2 _ _ (qv fun D3 h3 r3=>qZ fun B b1 b2=>⟨_,rfl,fun a3 ha3=>⟨a3,_,rfl,.inr (ha3 _),rfl,jb _,_,rfl,?_⟩⟩)));rw [if_neg Ai,jn]
    by_cases o1:Sho.opened.contains h=true
    ·have e2:fs.length=2:=qbd _ (A5 hf) o1;rw [if_pos o1,e,e2] at q;refine bP o1 (b1 _ ⟨_,rfl,h,fs,rfl,hf,fun a4 ha4=>⟨_,_,rfl,.inr ⟨_,ha4 _,rfl⟩,?_⟩⟩);dsimp only;rw [Ah,e2];have n2:(V.str h::ys).take 2≠[]:=by simp
     generalize ew:V.str h::ys=ws at rs hl n2;have wl:ws.length≤20001:=by rw [← ew,Aj];omega
     refine ⟨_,rfl,x.p,_,dx,_,_,rfl,ob,c.cl,c.aT,zj _ _,_,rfl,_,rfl,.inl ⟨x.l,_,rfl,SqL.of hl,fun p1 hp1=>?_⟩⟩;have g1:=qh hp1 (.lst (jf ws none (some ((2:Nat):Int))));refine ⟨p1,_,rfl,.inl ⟨SqL.of upd_same,fun p2 hp2=>?_⟩⟩;have g2:=g1.trans (qh hp2 (.tup (jf ws none (some ((2:Nat):Int)))));have h2:upd (upd H p1 (.lst (jf ws none (some ((2:Nat):Int))))) p2 (.tup (jf ws none (some ((2:Nat):Int)))) p2=some (.tup (jf ws none (some ((2:Nat):Int)))):=upd_same;generalize upd (upd H p1 (.lst (jf ws none (some ((2:Nat):Int))))) p2 (.tup (jf ws none (some ((2:Nat):Int))))=H2 at g2 h2 ⊢;refine ⟨_,rfl,x.p,_,dx,_,_,rfl,g2 _ _ ob,c.cl,c.aT,zj _ _,_,rfl,_,rfl,.inl ⟨x.l,_,rfl,SqL.of (g2 _ _ hl),fun p3 hp3=>?_⟩⟩;have g3:=qh hp3 (.lst (jf ws (some ((2:Nat):Int)) none));refine ⟨p3,_,rfl,.inl ⟨SqL.of upd_same,fun p4 hp4=>?_⟩⟩;have g4:=g3.trans (qh hp4 (.tup (jf ws (some ((2:Nat):Int)) none)));have h4:upd (upd H2 p3 (.lst (jf ws (some ((2:Nat):Int)) none))) p4 (.tup (jf ws (some ((2:Nat):Int)) none)) p4=some (.tup (jf ws (some ((2:Nat):Int)) none)):=upd_same;generalize upd (upd H2 p3 (.lst (jf ws (some ((2:Nat):Int)) none))) p4 (.tup (jf ws (some ((2:Nat):Int)) none))=H4 at g4 h4 ⊢;refine ⟨(O0:1≤Af),fun p5 hp5=>?_⟩;have g5:=qh hp5 (.tup [.ref p4]);refine ⟨p2,p5,_,_,rfl,rfl,SqT.of ((g4.trans g5) _ _ h2),SqT.of upd_same,?_,?_,(fun z=>by cases z),fun _ p6 hp6=>r3 _ _ ?_⟩
     ·rw [QV];exact n2
     ·rw [QV];have:=Bz 2 ws;exact Aw (show (ws.take 2).length+1≤3 from ⋯) O0
     have g6:=g5.trans (qh hp6 (.tup (jf ws none (some ((2:Nat):Int))++[.ref p4])));have g7:=(g2.trans g4).trans g6;have h7:upd (upd H4 p5 (.tup [.ref p4])) p6 (.tup (jf ws none (some ((2:Nat):Int))++[.ref p4])) p6=some (.tup (jf ws none (some ((2:Nat):Int))++[.ref p4])):=upd_same;have h47:=g6 _ _ h4;generalize upd (upd H4 p5 (.tup [.ref p4])) p6 (.tup (jf ws none (some ((2:Nat):Int))++[.ref p4]))=H7 at g7 h7 h47 ⊢;refine q _ _ g7 (.tup (SqT.of h7) ?_);rw [QV];refine WW ((Yu 2 rs).same g7) (.cons (.tup (SqT.of h47) ?_) .nil);rw [qfl];exact (Yv 2 rs).same g7
    ·rw [if_neg o1] at q;exact bN (Bs.mpr o1) (b2 _ (h3 _ _ ⟨_,rfl,x.p,_,dx,_,_,rfl,ob,c.cl,c.aT,zj _ _,x.l,_,rfl,.inl ⟨SqL.of hl,fun l hl0=>q _ _ (qh hl0 _) (.tup (SqT.of upd_same) (rs.same (qh hl0 _)))⟩⟩))
inductive spNum (vs:List V) (H:Hp) (Q:VK) (E':XK):Prop
 | mk:∀ x i,(vs=[.str x])→(Sho.Num x i)→(Q (.bl true) H)→spNum vs H Q E'
theorem Q1:("0":Str)=⟨#[48]⟩:=∅
theorem yV (F:Fun K "is_numeral" "is_numeral" vb f fd) (c:Cs K mg ad):FnOk P w K mg base CX0 1 f fd ["word"] spNum:=by
 refine F.ok Vg (fun vs H Q E h=>?_) (fun cdv A outer s H vs Q E hr h=>?_)
 ·obtain ⟨x,i,rfl,_⟩:=h;rfl
 obtain ⟨x,i,rfl,nm,q⟩:=h;refine ⟨_,(qc (pst 1 Vg.nd (vK (zt (vw (K:=K) rfl Cg PySem.F.slot_str_startswith PySem.F.type_str_startswith YE (pv 0) (qa qg qb))) (zV (wQ (K:=K) rfl) (pv 0) (ju qd) jM) (pv 0)))
   (qc (qD (PW.pt (Jc (jd (zt (qif (K:=K) rfl Cg PySem.F.slot_str_isdigit PySem.F.type_str_isdigit QD (pv 1)))) (jL (qq Yz (qz (zN (K:=K) rfl) (by rfl) c.len_ ze (qa (pv 1) qb)) (W1 c.MOST_FIGURES) (qw _))))) (qf (qr zW)) qt)
   (qf (qr (WZ (zf qT (pv 0) qg (qw _)) (JA (Qr (vw (K:=K) rfl Cg PySem.F.slot_str_startswith PySem.F.type_str_startswith YE (pv 1) (qa qg qb))))))))),?_⟩
 refine qv fun D2 h2 r2=>?_;have cont:∀ (y:Str) (m:Nat),y.cps.toList=Sho.dig m→m≤1000000000000→(x="0"∨m≠0)→D2.nx [some (.str x),some (.str y)] H:=fun y m ey hm h0=>h2 _ _ ?_
 ·refine ⟨_,rfl,rfl,_,_,rfl,rfl,_,rfl,?_⟩;cases st:Txt.startswith x "-" with
  | true=>
   obtain ⟨m,h0,hm,e⟩:=nm.neg st;have h1:1≤x.length:=by
    have a:x.cps.toList.length=x.length:=Bn;rw [e,Aj] at a;omega
   refine zp rfl ⟨_,rfl,_,rfl,.inr (.inl ⟨x,rfl,?_,cont _ m ?_ hm (.inr h0)⟩)⟩
   ·have:=nm.len;exact Aw (show x.length≤14 from ⋯) O0
   ·rw [Sho.slice1 h1,e];rfl
  | false=>
   obtain ⟨m,hm,e⟩:=nm.pos st;refine zh rfl ⟨_,rfl,cont x m e hm ?_⟩
   by_cases h0:m=0
   ·subst h0;refine .inl (Sho.str_ext ?_);rw [e,Q1];decide+kernel
   ·exact .inr h0
 clear h2 r2 D2;have hl:y.length=(Sho.dig m).length:=by rw [← ey];exact Bn.symm
 have hd:=Sho.dig_len hm;have dg:=Sho.all_digit ey (Sho.dig_all m) (Sho.dig_ne m);refine qv fun D2 h2 r2=>qZ fun B b1 b2=>⟨_,rfl,rfl,y,rfl,rfl,_,rfl,?_⟩;rw [dg];refine zh rfl ⟨_,rfl,_,_,rfl,⟨Aw (show y.length≤14 from ⋯) O0,rfl⟩,_,_,rfl,rfl,_,rfl,?_⟩;refine bN (Ar ⋯) (b2 _ (h2 _ _ ?_));refine ⟨_,rfl,rfl,_,rfl,?_⟩
 by_cases hx:x="0"
 ·exact zp (deq hx) q
 refine zh (dne hx) ⟨_,rfl,rfl,_,_,rfl,rfl,_,rfl,?_⟩;have z:Txt.startswith y "0"=false:=by
  rw [Q1,Sho.starts_one,ey];exact Ar (Sho.dig_head m (h0.resolve_left hx))
 rw [z];exact q
inductive TmOf (x:Str):Aa→Prop
 | name:Tre.qG x=true→TmOf x (.tuple [.str "name",.str x])
 | num {i:Int}:Sho.Num x i→TmOf x (.tuple [.str "number",.int i])
inductive spTm (K:Frag) (vs:List V) (H:Hp) (Q:VK) (E':XK):Prop
 | mk:∀ x t,(vs=[.str x])→(x.length≤1000)→(TmOf x t)→(∀ H' v,qy H H'→Rep K H' v t→Q v H')→spTm K vs H Q E'
theorem Qv (F:Fun K "term_of" "term_of" V8 f fd) (c:Cs K mg ad) (d_is_name:Def P w K mg base 1 "is_name" ["thing"] (spD K Tre.qY)) (d_is_numeral:Def P w K mg base 1 "is_numeral" ["word"] spNum):FnOk P w K mg base CX0 2 f fd ["word"] (spTm K):=by
 refine F.ok Qi (fun vs H Q E h=>?_) (fun cdv A outer s H vs Q E hr h=>?_)
 ·obtain ⟨x,t,rfl,_⟩:=h;rfl
 obtain ⟨x,t,rfl,hl,ht,q⟩:=h;refine ⟨_,(qc (qD (zt (pdf d_is_name (qa (pv 0) qb))) (qf (qr (qB (qa qg (qa (pv 0) qb))))) qt)
   (qc (qD (zt (pdf d_is_numeral (qa (pv 0) qb))) (qf (qr (qB (qa qg (qa (qM qex (by rfl) c.int_ ww (qa (pv 0) qb)) qb))))) qt)
   (qf Yx))),?_⟩
 refine qv fun D2 h2 r2=>qZ fun B b1 b2=>⟨_,rfl,_,.str x,rfl,.str _,?_,fun H1 g1=>⟨_,rfl,?_⟩⟩
 ·unfold Tre.fit;exact An ⋯
 show B (Tre.qG x) H1;cases ht with
 | name hn=>
  refine bP hn (b1 _ ⟨_,rfl,(O0:2≤Af),fun p hp=>r2 _ _ (q _ _ (g1.trans (qh hp _)) (.tup (SqT.of upd_same) (.cons (.str _) (.cons (.str _) .nil))))⟩)
 | @num i nm=>
  refine bN nm.nn (b2 _ (h2 _ _ (qv fun D3 h3 r3=>qZ fun B b1 b2=>⟨_,rfl,x,i,rfl,nm,_,rfl,b1 _ ?_⟩)));have:=nm.len;exact ⟨_,rfl,x,i,rfl,nm.val,⋯,(O0:2≤Af),fun p hp=>r3 _ _ (q _ _ (g1.trans (qh hp _)) (.tup (SqT.of upd_same) (.cons (.str _) (.cons (.int _) .nil))))⟩
inductive spThing (K:Frag) (C:Ac) (vs:List V) (H:Hp) (Q:VK) (E':XK):Prop
 | mk:∀ x a o t,(vs=[.str x,.ref a.p])→(x.length≤1000)→(OpAt K C H a o)→(Sho.OpOk o)→(Sho.Thing x o t)→(∀ H' v,qy H H'→Rep K H' v t→Q v H')→spThing K C vs H Q E'
theorem Zu (F:Fun K "thing_of" "thing_of" Vm f fd) (c:Cs K mg ad) (d_O_wanted:MethN P w K mg base ad.Opening 2 "wanted" ["self"] (spWant K ad.Opening)) (d_is_head:Def P w K mg base 1 "is_head" ["word","shape"] (spHead K)) (d_term_of:Def P w K mg base 2 "term_of" ["word"] (spTm K)):FnOk P w K mg base CX0 4 f fd ["word","opening"] (spThing K ad.Opening):=by
 refine F.ok (k:=3) wC (fun vs H Q E h=>?_) (fun cdv A outer s H vs Q E hr h=>?_)
 ·obtain ⟨x,a,o,t,rfl,_⟩:=h;rfl
 obtain ⟨x,a,o,t,rfl,hl,oa,ok,th,q⟩:=h;refine ⟨_,(qc (pst 2 wC.nd (Qs (pv 1) d_O_wanted (hr.mono (by first | decide | omega))))
   (qc (qD (PW.pt (Vq (qq qT (pv 2) qg (qw _)) (ve (zt (pdf d_is_head (qa (pv 0) (qa (je (pv 1) rfl) qb))))))) (qf (qr (pv 0))) qt)
   (qc (qD (qq (vR (K:=K) rfl) (pv 2) (qB (qa qg (qa qg qb))) rfl) (qf (qr (pv 0))) qt)
   (qc (qD (qq qT (pv 2) qg (qw _)) (qf (qr (pdf d_term_of (qa (pv 0) qb)))) qt)
   (qf Yx))))),?_⟩
 obtain ⟨dx,ob⟩:=oa.ob;have hw:∃ s,Sho.wanted o=some s:=by cases th <;> exact ⟨_,by assumption⟩
 obtain ⟨s,hw⟩:=hw;refine qv fun D2 h2 r2=>⟨_,rfl,a.p,dx,_,rfl,ob,rfl,a,o,s,rfl,oa,ok,hw,fun H1 g1=>h2 _ _ ?_⟩;have ob1:=g1 _ _ ob;refine qv fun D3 h3 r3=>qZ fun B b1 b2=>⟨_,rfl,rfl,_,rfl,?_⟩;have nohead:s≠"head"→Sho.Thing x o t→B false H1:=fun hn th'=>b2 _ (h3 _ _ (qv fun D4 h4 r4=>qZ fun B b1 b2=>⟨_,rfl,(O0:2≤Af),fun q2 hq2=>⟨q2,_,rfl,.inr (SqT.of upd_same),rfl,rfl,_,rfl,?_⟩⟩))
 ·by_cases hs:s="head"
  ·subst hs;refine zp (deq rfl) ⟨_,rfl,_,rfl,a.p,_,dx,_,_,rfl,ob1,c.cl,c.aS,vN _ _,x,o.sh,rfl,?_,_,rfl,?_⟩
   ·cases th with
    | head _ _=>
     cases ok with
     | text=>cases hw
     | @row sh ts h=>
      obtain ⟨m,hm⟩:=Cz.mp h;have nt:(sh=="text")=false:=by
       rw [Bf];intro z;rw [z] at h;exact absurd h ∅
      rw [Sho.wanted_row nt hm] at hw;have z:∀ p∈Tre.members,p.2≠"head":=∅;exact absurd (Bb hw) (z _ (A5 hm))
     | new h=>exact h
     | part h _=>exact h
    | word hw' hs=>rw [hw] at hw';cases hw';rcases hs with z | z <;> exact absurd z ∅
    | name hw' _=>rw [hw] at hw';exact absurd (Bb hw') ∅
    | num hw' _ _=>rw [hw] at hw';exact absurd (Bb hw') ∅
   ·cases th with
    | head _ hh=>exact bP hh (b1 _ ⟨_,rfl,r3 _ _ (q _ _ g1 (.str _))⟩)
    | word hw' hs=>rw [hw] at hw';cases hw';rcases hs with z | z <;> exact absurd z ∅
    | name hw' _=>rw [hw] at hw';exact absurd (Bb hw') ∅
    | num hw' _ _=>rw [hw] at hw';exact absurd (Bb hw') ∅
  ·exact zh (dne hs) (nohead hs th)
 have g2:=g1.trans (qh hq2 (.tup [.str "name",.str "word"]));generalize upd H1 q2 (.tup [.str "name",.str "word"])=H2 at g2 ⊢;have e0:inV (.str s) [.str "name",.str "word"]=(s=="name"||s=="word"):=wo _ _ _;rw [if_neg Ai,e0];cases th' with
 | head hw' _=>rw [hw] at hw';exact absurd (Bb hw') hn
 | word hw' hs=>
  rw [hw] at hw';cases hw';exact bP (by rw [Bt,Az,Az];exact hs) (b1 _ ⟨_,rfl,r4 _ _ (q _ _ g2 (.str _))⟩)
 | name hw' hx=>
  rw [hw] at hw';cases hw';refine bN ∅ (b2 _ (h4 _ _ (qv fun D5 h5 r5=>qZ fun B b1 b2=>⟨_,rfl,rfl,_,rfl,bP (deq rfl) (b1 _ ⟨_,rfl,x,_,rfl,hl,.name hx,fun H3 v g3 r=>r5 _ _ (q _ _ (g2.trans g3) r)⟩)⟩)))
 | @num i hw' hi hx=>
  rw [hw] at hw';cases hw';refine bN ∅ (b2 _ (h4 _ _ (qv fun D5 h5 r5=>qZ fun B b1 b2=>⟨_,rfl,rfl,_,rfl,bP (deq rfl) (b1 _ ⟨_,rfl,x,_,rfl,hl,.num (i:=i) (by rw [hx];exact Sho.num_of hi),fun H3 v g3 r=>r5 _ _ (q _ _ (g2.trans g3) r)⟩)⟩)))
end
section
variable {P:Program} {w:World} {K:Frag} {mg:Str→Option Ab} {base:Heap} {f:Ac} {fd:FuncData} {ad:Ad} {C:Ac} {G H H':Hp} {ol:Ac} {x:OA} {xs:List OA} {o:Sho.Op} {S:List Sho.Op}
theorem OpAt.put {q:Ac} {zs zs':List V} (hq:H q=some (.lst zs)) (n:x.l≠q) (h:OpAt K C H x o):OpAt K C (upd H q (.lst zs')) x o:=by
 obtain ⟨⟨dx,a⟩,⟨vs,b,r⟩,nl⟩:=h;exact ⟨⟨dx,by rw [qu (ya a hq (by intro z;cases z))];exact a⟩,⟨vs,by rw [qu n];exact b,r.put hq nl⟩,nl⟩
structure Stk (K:Frag) (C:Ac) (G H:Hp) (ol:Ac) (xs:List OA) (S:List Sho.Op):Prop where
 ls:H ol=some (.lst ((xs.map fun x=>V.ref x.p).reverse))
 at_:Paired (OpAt K C H) xs S
 nd:(xs.map (·.l)).Nodup
 ne:∀ x∈xs,x.l≠ol
 g:qy G H
 g0:G ol=none
 gx:∀ x∈xs,G x.l=none
theorem Stk.same (s:Stk K C G H ol xs S) (h:qy H H'):Stk K C G H' ol xs S:=
 ⟨h _ _ s.ls,L2.Paired.mapP s.at_ fun _ _ z=>z.same h,s.nd,s.ne,s.g.trans h,s.g0,s.gx⟩
theorem vg {q:Ac} {zs zs':List V} (hq:H q=some (.lst zs)):∀ {xs:List OA} {S:List Sho.Op},(∀ x∈xs,x.l≠q)→Paired (OpAt K C H) xs S→Paired (OpAt K C (upd H q (.lst zs'))) xs S
 | _,_,_,.nil=> .nil
 | _,_,n,.cons h t=> .cons (h.put hq (n _ Au)) (vg hq (fun y hy=>n y (Ao _ hy)) t)
theorem qk2 {ds:List Aa} {t:Aa} (h:Tre.zY ds=true) (ht:Tre.noL t=true):Tre.zY (ds++[t])=true:=by
 induction ds with
 | nil=>
  show (Tre.noL t&&true)=true;rw [ht];rfl
 | cons d r ih=>
  rw [Tre.zY,Al] at h;rw [Cc,Tre.zY,h.1,ih h.2];rfl
theorem Stk.push {vs:List V} {v:V} {t:Aa} (s:Stk K C G H ol (x::xs) (o::S)) (hl:H x.l=some (.lst vs)) (rs:Reps K H vs o.ts) (rv:Rep K H v t) (ht:Tre.noL t=true):Stk K C G (upd H x.l (.lst (vs++[v]))) ol (x::xs) (⟨o.sh,o.ts++[t]⟩::S):=by
 obtain ⟨ls,at_,nd,ne,g,g0,gx⟩:=s;cases at_ with
 | cons h tl=>
  obtain ⟨⟨dx,ob⟩,_,nl⟩:=h;rw [As,Cr] at nd;refine ⟨?_,.cons ⟨⟨dx,?_⟩,⟨vs++[v],upd_same,?_⟩,qk2 nl ht⟩ (vg hl (fun y hy z=>?_) tl),by rw [As,Cr];exact nd,ne,zo g (gx x Au) _,g0,gx⟩
  ·rw [qu (Ne.symm (ne x Au))];exact ls
  ·rw [qu (ya ob hl (by intro z;cases z))]
   exact ob
  ·exact WW (rs.put hl nl) (.cons (rv.put hl ht) .nil)
  ·exact nd.1 (Bo.mpr ⟨y,hy,z⟩)
theorem Stk.pop (s:Stk K C G H ol (x::xs) (o::S)):Stk K C G (upd H ol (.lst ((xs.map fun x=>V.ref x.p).reverse))) ol xs S∧OpAt K C (upd H ol (.lst ((xs.map fun x=>V.ref x.p).reverse))) x o:=by
 obtain ⟨ls,at_,nd,ne,g,g0,gx⟩:=s;cases at_ with
 | cons h tl=>
  rw [As,Cr] at nd;exact ⟨⟨upd_same,vg ls (fun y hy=>ne y (Ao _ hy)) tl,nd.2,fun y hy=>ne y (Ao _ hy),zo g g0 _,g0,fun y hy=>gx y (Ao _ hy)⟩,h.put ls (ne x Au)⟩
theorem Stk.open_ {p l dx:Ac} {sh:Str} {H1:Hp} (s:Stk K C G H ol xs S) (hg:qy H H1) (np:H p=none) (nl:H l=none) (hl:H1 l=some (.lst [])) (hp:H1 p=some (.ins C dx (oFl sh l))):Stk K C G (upd H1 ol (.lst ((xs.map fun x=>V.ref x.p).reverse++[.ref p]))) ol (⟨p,l⟩::xs) (⟨sh,[]⟩::S):=by
 have s1:=s.same hg;obtain ⟨ls,at_,nd,ne,g,g0,gx⟩:=s1;have n1:l≠ol:=fun z=>by rw [z,s.ls] at nl;cases nl
 have fresh:∀ y∈xs,y.l≠l:=fun y hy z=>by
  have:∀ {xs:List OA} {S:List Sho.Op},Paired (OpAt K C H) xs S→∀ y∈xs,∃ vs,H y.l=some (.lst vs):=fun h=>by
   induction h with
   | nil=>intro y hy;cases hy
   | cons h _ ih=>
    intro y hy;rcases Ap.mp hy with rfl | hy
    ·obtain ⟨_,⟨vs,b,_⟩,_⟩:=h;exact ⟨vs,b⟩
    ·exact ih y hy
  obtain ⟨vs,e⟩:=this s.at_ y hy;rw [z,nl] at e;cases e
 refine ⟨?_,.cons ⟨⟨dx,?_⟩,⟨[],?_,.nil⟩,rfl⟩ (vg ls ne at_),?_,fun y hy=>?_,zo g g0 _,g0,fun y hy=>?_⟩
 ·rw [As,Ee];exact upd_same
 ·rw [qu (ya hp ls (by intro z;cases z))]
  exact hp
 ·rw [qu n1];exact hl
 ·rw [As,Cr];exact ⟨fun z=>by obtain ⟨y,hy,e⟩:=Bo.mp z;exact fresh y hy e,nd⟩
 ·rcases Ap.mp hy with rfl | hy
  ·exact n1
  ·exact ne y hy
 ·rcases Ap.mp hy with rfl | hy
  ·cases e:G l with
   | none=>rfl
   | some u=>rw [s.g _ _ e] at nl;cases nl
  ·exact gx y hy
theorem Stk.top (s:Stk K C G H ol (x::xs) (o::S)):OpAt K C H x o:=by
 cases s.at_ with
 | cons h _=>exact h
theorem Stk.shape (s:Stk K C G H ol xs (o::S)):∃ y ys,xs=y::ys:=by
 cases s.at_ with
 | cons h _=>exact ⟨_,_,rfl⟩
theorem ZA {ds:List Aa} (h:Tre.zY ds=true) (n:Nat):Tre.zY (ds.take n)=true∧Tre.zY (ds.drop n)=true:=by
 induction ds generalizing n with
 | nil=>cases n <;> exact ⟨rfl,rfl⟩
 | cons d r ih=>
  have h0:=h;rw [Tre.zY,Al] at h;cases n with
  | zero=>exact ⟨rfl,h0⟩
  | succ n=>
   refine ⟨?_,(ih h.2 n).2⟩;rw [List.take_succ_cons,Tre.zY,h.1,(ih h.2 n).1];rfl
set_option tactic.hygienic true in
theorem QX {o:Sho.Op} (h:Tre.zY o.ts=true):Tre.noL (Sho.closed o)=true:=by
 unfold Sho.closed;split
 ·exact h
 ·split
  ·rename_i hh r e;rw [e] at h;split
   ·exact h
   ·split
    ·rw [Tre.noL];refine qk2 (ZA h _).1 ?_;rw [Tre.noL];exact (ZA h _).2
    ·exact h
  ·exact h
theorem qbg {y:Str} {t:Aa} (h:Sho.Thing y o t):Tre.noL t=true:=by cases h <;> rfl
end
section
variable {P:Program} {w:World} {K:Frag} {mg:Str→Option Ab} {base:Heap} {f:Ac} {fd:FuncData} {ad:Ad}
inductive spTake (K:Frag) (C:Ac) (vs:List V) (H:Hp) (Q:VK) (E':XK):Prop
 | mk:∀ ol x G xs S S',(vs=[.ref ol,.str x])→(Stk K C G H ol xs S)→(Sho.Step S x S')→(x.length≤1000)→((∀ o∈S,o.ts.length≤19000))→(S.length≤19000)→(∀ H' xs',Stk K C G H' ol xs' S'→Q .non H')→spTake K C vs H Q E'
theorem qdu {α:Type} (R:List α) (v:α):(R++[v])[(R++[v]).length - 1]?=some v:=by simp
def Yd (K:Frag) (ad:Ad):TS:=vo (tBM K "list" vd (qga K (tOp (rIx K) (qk 0) (tUn (rU fun i=>V.int (-i)) (tC (V.int 1)))) (Str.ofString "things")) (qe (Q7 ad.Opening (Str.ofString "closed") (spClosed K ad.Opening) [] E0 (qk 2) qx) qx))
def Yc (K:Frag) (ad:Ad):TS:=qO (vo (qgb K "list" qkl (qk 0))) (Yd K ad)
def Yb (K:Frag) (ad:Ad):TS:=vo (tBM K "list" vd (qk 0) (qe (Q8 ad.Opening (spOini ad.Opening) [] E0 (qe (qk 3) qx)) qx))
def Ya (K:Frag) (ad:Ad):TS:=qO (zO (qW (tOp (rIn K true) (qk 3) (tGT K Sho.bracketed))) tNo zn) (Yb K ad)
def y9 (K:Frag) (ad:Ad):TS:=qO (zF (Q7 ad.Opening (Str.ofString "wanted") (spWant K ad.Opening) [] E0 (qk 2) qx) (qE 3)) (Ya K ad)
def y8 (K:Frag) (ad:Ad):TS:=vo (tBM K "list" vd (qga K (qk 2) (Str.ofString "things")) (qe (qI (spThing K ad.Opening) [] E0 (qe (qk 1) (qe (qk 2) qx))) qx))
def y6 (K:Frag) (ad:Ad):TS:=qO (zO (qW (tOp rEq (tCB (fun xs H Q=>∃ x n,xs=[x]∧wz K x H n∧Q (V.int ↑n) H) (qe (qk 0) qx)) (tC (V.int 1)))) tNo zn) (Yc K ad)
def yZ (K:Frag) (ad:Ad):TS:=zO (qW (tOp rEq (qk 1) (tC (V.str "(")))) (y9 K ad) (y8 K ad)
def yY (K:Frag) (ad:Ad):TS:=zO (qW (tOp rEq (qk 1) (tC (V.str ")")))) (y6 K ad) (yZ K ad)
theorem Xr (F:Fun K "take_word" "take_word" vG f fd) (c:Cs K mg ad) (T2:Tb2 K mg) (d_Opening:MakeA P w K mg base "Opening" ad.Opening 1 ["self","shape"] (spOini ad.Opening)) (d_O_wanted:MethN P w K mg base ad.Opening 2 "wanted" ["self"] (spWant K ad.Opening)) (d_O_closed:MethN P w K mg base ad.Opening 1 "closed" ["self"] (spClosed K ad.Opening)) (d_thing_of:Def P w K mg base 4 "thing_of" ["word","opening"] (spThing K ad.Opening)):
  FnOk P w K mg base CX0 5 f fd ["openings","word"] (spTake K ad.Opening):=by
 refine F.ok (k:=4) J8 (fun vs H Q E h=>?_) (fun cdv A outer s H vs Q E hr h=>?_)
 ·obtain ⟨ol,x,G,xs,S,S',rfl,_⟩:=h;rfl
 obtain ⟨ol,x,G,xs,S,S',rfl,sk,st,hx,hz,hS,q⟩:=h;refine ⟨_,(qc (pst 2 J8.nd (pix K (pv 0) (qag Y9 qd)))
   (qf (qD (qq qT (pv 1) qg (qw _)) (qc (qD (qq qT (qz (zN (K:=K) rfl) (by rfl) c.len_ ze (qa (pv 0) qb)) qd (qw _)) (qf Yx) qt)
   (qc (zP (qif (K:=K) rfl By PySem.F.slot_list_pop PySem.F.type_list_pop qjf (pv 0)))
   (qf (zP (vw (K:=K) rfl By Ck Cl jG (je (pix K (pv 0) (qag Y9 qd)) rfl) (qa (Qs (pv 2) d_O_closed (hr.mono (by first | decide | omega))) qb)))))) (qf (qD (qq qT (pv 1) qg (qw _)) (qc (pst 3 J8.nd (Qs (pv 2) d_O_wanted (hr.mono (by first | decide | omega))))
   (qc (qD (qq (qek (K:=K) rfl) (pv 3) (VM T2.BRACKETED) rfl) (qf Yx) qt)
   (qf (zP (vw (K:=K) rfl By Ck Cl jG (pv 0) (qa (qd9 d_Opening (hr.mono (by first | decide | omega)) (qa (pv 3) qb)) qb)))))) (qf (zP (vw (K:=K) rfl By Ck Cl jG (je (pv 2) rfl) (qa (pdf d_thing_of (qa (pv 1) (qa (pv 2) qb))) qb))))))))),?_⟩
 show qO (zF (tOp (rIx K) (qk 0) (tUn (rU fun i=>V.int (-i)) (tC (V.int 1)))) (qE 2)) (yY K ad) _ _ _;have top:∃ o S0,S=o::S0:=by cases st <;> exact ⟨_,_,rfl⟩
 obtain ⟨o,S0,rfl⟩:=top;obtain ⟨a,as,rfl⟩:=sk.shape;have ls:=sk.ls;rw [As,Ee] at ls;generalize eR:(as.map fun x=>V.ref x.p).reverse=R at ls;have oa:=sk.top;obtain ⟨⟨dx,ob⟩,⟨vs,hl,rs⟩,nl⟩:=sk.top;have lz:o.ts.length≤19000:=hz o Au;have hvl:=rs.length;refine qv fun D2 h2 r2=>⟨_,rfl,1,rfl,.inl ⟨ol,_,-1,_,rfl,rfl,SqL.of ls,yt _ _,h2 _ _ ?_⟩⟩;refine qZ fun B b1 b2=>⟨_,rfl,rfl,_,rfl,?_⟩;cases st with
 | @close _ r rs' ok nt=>
  refine bP (deq rfl) (b1 _ ?_);obtain ⟨sk2,oa2⟩:=sk.pop;have e2:∃ b bs,as=b::bs:=sk2.shape;obtain ⟨b,bs,rfl⟩:=e2;have hR:R.length=bs.length+1:=by
   rw [← eR,List.length_reverse,Ah];rfl
  refine qv fun D3 h3 r3=>qZ fun B b1 b2=>⟨_,rfl,_,_,rfl,.inl ⟨_,SqL.of ls,rfl⟩,rfl,_,rfl,?_⟩;refine bN (Ar fun z=>?_) (b2 _ (h3 _ _ ?_))
  ·have:=V.int.inj z;rw [Ak,Cy,hR] at this;omega
  refine qv fun D4 h4 r4=>⟨_,rfl,.inl ⟨rfl,_,SqL.of ls⟩,ol,_,_,rfl,rfl,ls,qdu _ _,h4 _ _ ?_⟩;rw [List.dropLast_concat,← eR];generalize upd H ol (.lst ((List.map (fun x=>V.ref x.p) (b::bs)).reverse))=H2 at sk2 oa2 ⊢;have ls2:=sk2.ls;rw [As,Ee] at ls2;obtain ⟨⟨dx2,ob2⟩,⟨vs2,hl2,rs2⟩,nl2⟩:=sk2.top;obtain ⟨dx3,ob3⟩:=oa2.ob;have lz2:r.ts.length≤19000:=hz r (Ao _ Au);have hvl2:=rs2.length;refine ⟨_,rfl,1,rfl,.inl ⟨ol,_,-1,_,rfl,rfl,SqL.of ls2,yt _ _,b.p,_,dx2,_,_,rfl,ob2,c.cl,c.aT,zj _ _,.inl ⟨rfl,_,SqL.of hl2⟩,_,rfl,a.p,dx3,_,rfl,ob3,rfl,a,o,rfl,oa2,ok,nt,⋯,fun H3 v g3 rv=>?_⟩⟩;refine ⟨b.l,_,_,rfl,rfl,g3 _ _ hl2,Ch (show vs2.length≤19000 from ⋯) O0,q _ (b::bs) ?_⟩;exact (sk2.same g3).push (g3 _ _ hl2) (rs2.same g3) rv (QX nl)
 | @opens _ _ sh ok hw hb=>
  refine bN (dne ∅) (b2 _ (qZ fun B b1 b2=>⟨_,rfl,rfl,_,rfl,bP (deq rfl) (b1 _ ?_)⟩));refine qv fun D3 h3 r3=>⟨_,rfl,a.p,dx,_,rfl,ob,rfl,a,o,sh,rfl,oa,ok,hw,fun H1 g1=>h3 _ _ ?_⟩;refine qv fun D4 h4 r4=>qZ fun B b1 b2=>⟨_,rfl,fun a2 ha2=>⟨a2,_,rfl,.inr (ha2 _),rfl,jb _,_,rfl,?_⟩⟩;rw [if_pos rfl,jn];refine bN (by rw [hb];rfl) (b2 _ (h4 _ _ ?_))
  have sk1:=sk.same g1;refine ⟨_,rfl,.inl ⟨rfl,_,SqL.of (g1 _ _ ls)⟩,_,rfl,fun p dx2 hp hd hne=>?_⟩;have n1:=qh hd (.own p);have hp1:upd H1 dx2 (.own p) p=none:=by rw [qu (Ne.symm hne)];exact hp
  have n2:=n1.trans (qh hp1 (.ins ad.Opening dx2 []));refine ⟨p,sh,dx2,rfl,upd_same,fun H3 l k3 hl3 hl4 hp4=>⟨rfl,?_⟩⟩;have g3:qy H1 H3:=fun b u e=>k3 b u (qC e hp) (n2 _ _ e);have hl1:H1 l=none:=by
   cases e:H1 l with
   | none=>rfl
   | some u=>rw [n2 _ _ e] at hl3;cases hl3
  refine ⟨ol,_,_,rfl,rfl,g3 _ _ (g1 _ _ ls),Ch (m:=20000) ?_ O0,q _ (⟨p,l⟩::a::as) ?_⟩
  ·have z:=Cw sk.at_;have e:(R++[V.ref a.p]).length=as.length+1:=by
    rw [← eR,Ak,List.length_reverse,Ah];rfl
   rw [e];rw [Aj] at z;omega
  ·have z:=sk1.open_ (p:=p) (l:=l) (dx:=dx2) (sh:=sh) g3 hp hl1 hl4 hp4;rw [As,Ee,eR] at z;exact z
 | @word _ _ _ t ok n1 n2 th=>
  refine bN (dne n2) (b2 _ (qZ fun B b1 b2=>⟨_,rfl,rfl,_,rfl,bN (dne n1) (b2 _ ?_)⟩));refine ⟨_,rfl,a.p,_,dx,_,_,rfl,ob,c.cl,c.aT,zj _ _,.inl ⟨rfl,_,SqL.of hl⟩,_,rfl,_,rfl,x,a,o,t,rfl,hx,oa,ok,th,fun H3 v g3 rv=>?_⟩;refine ⟨a.l,_,_,rfl,rfl,g3 _ _ hl,Ch (show vs.length≤19000 from ⋯) O0,q _ (a::as) ?_⟩;exact (sk.same g3).push (g3 _ _ hl) (rs.same g3) rv (qbg th)
end
def okC (c:Nat):Bool:=decide (c=10)||(decide (32≤c)&&decide (c≤126)&&!decide (c=37))
def JF (x:Str):Bool:=decide (x.length≤6000)&&x.cps.toList.all okC
theorem qhf (a c:Nat):(!decide (([c]:List Nat)<[a]))=decide (a≤c):=by
 rw [B5];simp [List.cons_lt_cons_iff]
section
variable {P:Program} {w:World} {K:Frag} {mg:Str→Option Ab} {base:Heap} {f:Ac} {fd:FuncData} {ad:Ad}
inductive spSign (vs:List V) (H:Hp) (Q:VK) (E':XK):Prop
 | mk:∀ (c:Nat),(vs=[.str ⟨#[c]⟩])→(Q (.bl (okC c)) H)→spSign vs H Q E'
theorem qej (c:Nat):(decide (V.str ⟨#[c]⟩=V.str "\n"))=decide (c=10):=by
 rw [B5,Bk,Bk];constructor
 ·intro h;have h1:(⟨#[c]⟩:Str)=⟨#[10]⟩:=V.str.inj h;injection h1 with h1
  simpa using h1
 ·intro h;rw [h];rfl
theorem wX (F:Fun K "is_text_sign" "is_text_sign" Jy f fd) (c:Cs K mg ad):FnOk P w K mg base CX0 1 f fd ["sign"] spSign:=by
 refine F.ok wS (fun vs H Q E h=>?_) (fun cdv A outer s H vs Q E hr h=>?_)
 ·obtain ⟨x,rfl,_⟩:=h;rfl
 obtain ⟨x,rfl,q⟩:=h;refine ⟨_,(qf (qr (WZ (zf qT (pv 0) qg (qw _)) (JA (wc (W2 v1 v1 qg (pv 0) qg) (JA (zf VO (qz qfo (by rfl) c.ord_ qjy (qa (pv 0) qb)) (W1 c.PERCENT) (qw _)))))))),?_⟩
 refine ⟨_,rfl,rfl,_,rfl,?_⟩;unfold okC at q
 by_cases h1:x=10
 ·refine zp ((qej x).trans (An h1)) ?_;rw [An h1,Bool.true_or] at q;exact q
 refine zh ((qej x).trans (Ar h1)) ?_;rw [Ar h1,Ey] at q;refine ⟨_,rfl,_,_,rfl,rfl,_,rfl,?_⟩
 by_cases h2:32≤x
 ·refine zp ((qhf 32 x).trans (An h2)) ⟨_,_,rfl,rfl,_,rfl,?_⟩;rw [An h2,B0] at q
  by_cases h3:x≤126
  ·refine zp ((qhf x 126).trans (An h3)) ⟨_,rfl,_,rfl,rfl,rfl,?_⟩;rw [An h3,B0] at q;have e:(!decide (V.int ((⟨#[x]⟩:Str).cps.getD 0 0:Nat)=V.int 37))=!decide (x=37):=by
    congr 1
    rw [B5,Bk,Bk];show V.int ((x:Nat):Int)=V.int 37↔x=37;constructor
    ·intro h;have:=V.int.inj h;omega
    ·intro h;rw [h];rfl
   show Q (.bl (!decide (V.int ((⟨#[x]⟩:Str).cps.getD 0 0:Nat)=V.int 37))) H;rw [e];exact q
  ·refine zh ((qhf x 126).trans (Ar h3)) ?_;rw [Ar h3,B3] at q;exact q
 ·refine zh ((qhf 32 x).trans (Ar h2)) ⟨_,rfl,w4 ?_⟩;rw [Ar h2,B3,B3] at q;exact q
inductive spText (vs:List V) (H:Hp) (Q:VK) (E':XK):Prop
 | mk:∀ x,(vs=[.str x])→(x.length≤100000)→(∀ H',qy H H'→Q (.bl (JF x)) H')→spText vs H Q E'
theorem Qw (F:Fun K "is_text" "is_text" vZ f fd) (c:Cs K mg ad) (d_is_text_sign:Def P w K mg base 1 "is_text_sign" ["sign"] spSign):FnOk P w K mg base CX0 2 f fd ["thing"] spText:=by
 refine F.ok Qj (fun vs H Q E h=>?_) (fun cdv A outer s H vs Q E hr h=>?_)
 ·obtain ⟨x,rfl,_⟩:=h;rfl
 obtain ⟨x,rfl,hx,q⟩:=h;refine ⟨_,(qc (qD (PW.pt (Jc (jd (zt (qz (vi (K:=K) rfl) (by rfl) c.isinstance_ zg (qa (pv 0) (qa (VL c.str_ vU) qb))))) (jL (qq Yz (qz (zN (K:=K) rfl) (by rfl) c.len_ ze (qa (pv 0) qb)) (W1 c.MOST_SIGNS) (qw _))))) (qf (qr zW)) qt)
   (qf (qr (qz (qa4 (K:=K) rfl rfl) (by rfl) c.all_ XL (qa (jB (sc:=qj vZ) (NX:=["thing"]) (N:=["sign"]) (js:=[none]) (WY (K:=K) rfl (pv 0)) (fun _ _ _ _ _=>(zy (i:=0) (show (["sign"]:List Str).Nodup from ∅) rfl (Or.inl rfl))) (fun _ _ _ _ _=>jN) (fun _ _ _ _ _=>(pdf d_is_text_sign (qa (pv 0) qb))) (zX rfl) ⟨∅,rfl,∅,∅,rfl,∅⟩) qb))))),?_⟩
 refine ⟨_,rfl,_,.str x,"str",rfl,.str _,O0,_,rfl,w4 ?_⟩;have hx':x.length≤Af:=line ⋯;have hl:x.length=x.cps.toList.length:=by simp [Str.length]
 refine ⟨_,rfl,_,_,rfl,⟨hx',rfl⟩,_,_,rfl,rfl,_,rfl,?_⟩;refine w6 (fun c1=>?_) (fun c1=>?_)
 ·have c1':(6000:Int)<(x.length:Int):=A3 c1;have e:JF x=false:=by
   unfold JF;rw [Ar (show ¬ x.length≤6000 from ⋯),B3]
  have q':=q H (qy.refl _);rw [e] at q';exact q'
 ·have c1':¬ (6000:Int)<(x.length:Int):=of_decide_eq_false (Bs.mpr c1);have hsz:x.cps.size=x.cps.toList.length:=by simp
  refine ⟨_,rfl,.inr (.inr ⟨x,rfl,ji x.cps.size (fun i ys H'=>H'=H∧ys=(x.cps.toList.take i).map fun c=>V.bl (okC c)) ⟨rfl,rfl⟩ (fun i ys H' h=>?_) (by rw [hsz,← hl];exact hx') (fun i ys H' hi h=>?_) (fun ys H' h=>?_)⟩)⟩
  ·obtain ⟨_,rfl⟩:=h;rw [Ah];exact Bz _ _
  ·obtain ⟨rfl,rfl⟩:=h;refine ⟨hi,fun v H2 hy=>?_⟩;obtain ⟨rfl,cc,hcc,rfl⟩:=hy;have step:(x.cps.toList.take (i+1)).map (fun c=>V.bl (okC c))=(x.cps.toList.take i).map (fun c=>V.bl (okC c))++[V.bl (okC cc)]:=by
    have hcc':x.cps.toList[i]?=some cc:=by simpa using hcc
    rw [Bw,hcc',A1];rfl
   refine ⟨_,rfl,cc,rfl,rfl,?_⟩;rw [step]
  ·obtain ⟨rfl,rfl⟩:=h;refine ⟨Ax _,fun D hD=>⟨D,x.cps.toList.map okC,rfl,SqL.of (by rw [upd_same,hsz,Cb,Bv];rfl),?_⟩⟩
   have e:JF x=(x.cps.toList.map okC).all id:=by
    unfold JF;rw [An (show x.length≤6000 from ⋯),Dm];rfl
   rw [← e];exact q _ (qh hD _)
def V3 (y:Str):List Str:=Txt.words (Txt.replace (Txt.replace y "(" " ( ") ")" " ) ")
inductive spW (CB:Ac) (vs:List V) (H:Hp) (Q:VK) (E:XK):Prop
 | mk:∀ y,(vs=[.str y])→(y.length≤100000)→((JF y=true→∀ H' l,qy H H'→H' l=none→Q (.ref l) (upd H' l (.lst ((V3 y).map V.str)))))→((JF y=false→∀ H',qy H H'→E (.ref CB) none H'))→spW CB vs H Q E
theorem qfc (c:Nat) (z l:List Nat) (hz:z.length=3):(Wd.flat c z l).length≤3*l.length:=by
 induction l with
 | nil=>exact Ax _
 | cons k r ih=>
  show ((if k=c then z else [k])++Wd.flat c z r).length≤_
  rw [Ak,Aj];split
  ·omega
  ·rw [Cy];omega
theorem Zn (x z:Str) (c:Nat) (hz:z.cps.toList.length=3):(Txt.replace x ⟨#[c]⟩ z).length≤3*x.length:=by
 have h:=Wd.replace_flat x z c;have h2:=qfc c z.cps.toList x.cps.toList hz;rw [← h] at h2;simpa [Str.length] using h2
theorem Zt (F:Fun K "words_of" "words_of" Vl f fd) (c:Cs K mg ad) (d_is_text:Def P w K mg base 2 "is_text" ["thing"] spText):FnOk P w K mg base (CX1 P w) 3 f fd ["text"] (spW ad.BadText):=by
 refine F.okp Zi ∅ O0 (fun vs H Q E h=>?_) (fun cdv A outer s H vs Q E hr h=>?_)
 ·obtain ⟨x,rfl,_⟩:=h;rfl
 obtain ⟨x,rfl,hk,q1,q2⟩:=h;refine ⟨_,(qd3 (qD (jd (zt (qeb d_is_text (hr.mono O0) (qa (pv 0) qb)))) (qf (qd4 qgo c.o_BadText c.m_BadText (qa qg qb))) qt) (qgu (qgx (K:=K) rfl Cg PySem.F.slot_str_split PySem.F.type_str_split qeo (wF (wF (pv 0).toP))))),?_⟩;refine ⟨_,rfl,x,rfl,hk,fun H1 g1=>⟨_,rfl,?_⟩⟩;cases ht:JF x with
 | false=>exact vv ⟨(by show 1≤Af;decide),q2 ht H1 g1⟩
 | true=>
  refine w4 ?_;have hl:x.length≤6000:=by
   unfold JF at ht;rw [Al,Bk] at ht;exact ht.1
  have e3:(" ( ":Str).cps.toList.length=3:=∅;have e4:(" ) ":Str).cps.toList.length=3:=∅;have l1:(Txt.replace x "(" " ( ").length≤3*x.length:=Zn x " ( " 40 e3;have l2:(Txt.replace (Txt.replace x "(" " ( ") ")" " ) ").length≤3*(Txt.replace x "(" " ( ").length:=Zn _ " ) " 41 e4;have e5:(" ( ":Str).length=3:=∅;have e6:(" ) ":Str).length=3:=∅;refine ⟨_,rfl,x,rfl,?_,_,rfl,?_,rfl,_,rfl,rfl,?_,fun l hl'=>q1 ht H1 l g1 hl'⟩
  ·rw [e5];omega
  ·rw [e6];omega
  ·omega
theorem qbn {S S':List Sho.Op} {x:Str} {n:Nat} (h:Sho.Step S x S') (hn:∀ o∈S,o.ts.length≤n):(∀ o∈S',o.ts.length≤n+1)∧S'.length≤S.length+1:=by
 cases h with
 | @close o r rs ok nt=>
  refine ⟨fun y hy=>?_,by simp⟩
  rcases Ap.mp hy with rfl | hy
  ·show (r.ts++[_]).length≤_;rw [Ak,Cy];exact Cu (hn r (Ao _ Au))
  ·exact C7 (hn y (Ao _ (Ao _ hy)))
 | opens _ _ _=>
  refine ⟨fun y hy=>?_,by simp⟩
  rcases Ap.mp hy with rfl | hy
  ·exact Bm _
  ·exact C7 (hn y hy)
 | @word o rs x t _ _ _ _=>
  refine ⟨fun y hy=>?_,by simp⟩
  rcases Ap.mp hy with rfl | hy
  ·show (o.ts++[_]).length≤_;rw [Ak,Cy];exact Cu (hn o Au)
  ·exact C7 (hn y (Ao _ hy))
structure Good (y:Str) (d:Aa):Prop where
 tx:JF y=true
 st:Sho.Steps [⟨"text",[]⟩] (V3 y) [⟨"text",[d]⟩]
 wl:∀ x∈V3 y,x.length≤1000
 len:(V3 y).length≤18000
 pr:Tre.zJ d=true
 ft:Tre.fit d=true
inductive spRead (K:Frag) (CB:Ac) (vs:List V) (H:Hp) (Q:VK) (E:XK):Prop
 | mk:∀ y,(vs=[.str y])→(y.length≤100000)→(((∃ d,Good y d∧∀ H' v,qy H H'→Rep K H' v d→Q v H')∨(JF y=false∧∀ H',qy H H'→E (.ref CB) none H')))→spRead K CB vs H Q E
theorem jF {H H':Hp} {b:Ac} (g:qy H H') (h:H' b=none):H b=none:=by
 cases e:H b with
 | none=>rfl
 | some u=>rw [g _ _ e] at h;cases h
inductive Iv_RdH_0 (K:W.Frag) (ad:Ad) (y:Str) (ol:Ac) (d:Aa) (ws:List Str) (G:Hp) (i:Nat) (σ:St) (H':Hp):Prop
 | mk:∀ o2 xs S,(σ=[some (.str y),some (.ref ol),o2,none])→(Stk K ad.Opening G H' ol xs S)→(Sho.Steps S (ws.drop i) [⟨"text",[d]⟩])→((∀ o∈S,o.ts.length≤i))→(S.length≤i+1)→Iv_RdH_0 K ad y ol d ws G i σ H'
def qf1 (K:Frag) (ad:Ad):TS:=vo (qI (spTake K ad.Opening) [] E0 (qe (qk 1) (qe (qk 2) qx)))
def qf0 (K:Frag):TS:=zS (tOp (rIx K) (qk 3) (tC (V.int 0)))
def qfz (K:Frag):TS:=qO (zO (tOr (qW (tOp rNe (tCB (fun xs H Q=>∃ x n,xs=[x]∧wz K x H n∧Q (V.int ↑n) H) (qe (qk 1) qx)) (tC (V.int 1)))) (tOr (qW (tOp rNe (tCB (fun xs H Q=>∃ x n,xs=[x]∧wz K x H n∧Q (V.int ↑n) H) (qe (qk 3) qx)) (tC (V.int 1)))) (Z9 (tB (qI (spD K Tre.zJ) [] E0 (qe (tOp (rIx K) (qk 3) (tC (V.int 0))) qx)))))) tNo zn) (qf0 K)
def qfy (K:Frag):TS:=qO (zF (qga K (tOp (rIx K) (qk 1) (tC (V.int 0))) (Str.ofString "things")) (qE 3)) (qfz K)
def qfx (E:XK) (K:Frag) (ad:Ad):TS:=qO (Qa (QO K (qI (spW ad.BadText) [] E (qe (qk 0) qx))) (qE 2) (qf1 K ad)) (qfy K)
theorem qg4 (F:Fun K "read" "read" Qm f fd) (c:Cs K mg ad) (d_Opening:MakeA P w K mg base "Opening" ad.Opening 1 ["self","shape"] (spOini ad.Opening)) (d_words_of:DefX P w K mg base 3 "words_of" ["text"] (spW ad.BadText)) (d_take_word:Def P w K mg base 5 "take_word" ["openings","word"] (spTake K ad.Opening)) (d_is_program:Def P w K mg base 5 "is_program" ["thing"] (spD K Tre.zJ)):
  FnOk P w K mg base (CX1 P w) 6 f fd ["text"] (spRead K ad.BadText):=by
 refine F.ok1 (k:=5) Wl (fun vs H Q E h=>?_) (fun cdv A outer s H vs Q E hr h=>?_)
 ·obtain ⟨y,rfl,_⟩:=h;rfl
 obtain ⟨y,rfl,hy,q⟩:=h;refine ⟨_,(qc (pst 1 Wl.nd (qJ (qa (qd9 d_Opening (hr.mono (by first | decide | omega)) (qa qg qb)) qb)))
   (qc (JO PassesOwn.leaving rfl (WY (K:=K) rfl (VN d_words_of (hr.mono (by first | decide | omega)) qky (qa (pv 0) qb))) (pgn 2 Wl.nd) (qf (zP (pdf d_take_word (qa (pv 1) (qa (pv 2) qb))))))
   (qc (pst 3 Wl.nd (je (pix K (pv 1) qd) rfl))
   (qc (qD (PW.pt (Jc (qq VO (qz (zN (K:=K) rfl) (by rfl) c.len_ ze (qa (pv 1) qb)) qd (qw _)) (Jc (qq VO (qz (zN (K:=K) rfl) (by rfl) c.len_ ze (qa (pv 3) qb)) qd (qw _)) (jL (jd (zt (pdf d_is_program (qa (pix K (pv 3) qd) qb)))))))) (qf Yx) qt)
   (qf (qr (pix K (pv 3) qd))))))),?_⟩
 show qO (zF (jz (qe (Q8 ad.Opening (spOini ad.Opening) [] E0 (qe (tC (V.str "text")) qx)) qx)) (qE 1)) (qfx E K ad) _ _ _;refine qv fun D2 h2 r2=>fun p dx hp hd hne=>?_;have n1:=qh hd (.own p);have hp1:upd H dx (.own p) p=none:=by rw [qu (Ne.symm hne)];exact hp
 have n2:=n1.trans (qh hp1 (.ins ad.Opening dx []));refine ⟨p,"text",dx,rfl,upd_same,fun H1 l0 k1 hl0 hl1 hp2=>⟨rfl,(O0:1≤Af),fun ol hol=>h2 _ _ ?_⟩⟩;have g1:qy H H1:=fun b u e=>k1 b u (qC e hp) (n2 _ _ e);have hl0':H l0=none:=jF n2 hl0;have g2:=g1.trans (qh hol (.lst [.ref p]));have ol0:H ol=none:=jF g1 hol;have e0:upd H1 ol (.lst [.ref p]) ol=some (.lst [.ref p]):=upd_same;have e1:=qh hol (.lst [.ref p]) _ _ hl1;have e2:=qh hol (.lst [.ref p]) _ _ hp2;have n0:l0≠ol:=qC hl1 hol;generalize upd H1 ol (.lst [.ref p])=H2 at g2 e0 e1 e2 ⊢;clear k1 hl1 hp2 hol n1 n2 hp1 g1 hd hl0;refine qv fun D3 h3 r3=>⟨_,rfl,y,rfl,hy,fun ht H3 l g3 hl=>?_,fun ht H3 g3=>?_⟩
 ·obtain ⟨d,gd,q⟩ | ⟨hf,_⟩:=q
  ·refine .inl ⟨l,rfl,⟨_,SqL.of upd_same⟩,?_⟩;have gl:=gd.len;have st:=gd.st;have wl:=gd.wl;generalize V3 y=ws at gl st wl ⊢;have e3:upd H3 l (.lst (ws.map V.str)) l=some (.lst (ws.map V.str)):=upd_same;have g4:=g3.trans (qh hl (.lst (ws.map V.str)));have hlH:H l=none:=jF (g2.trans g3) hl;have nol:ol≠l:=qC (g3 _ _ e0) hl;have nl0:l0≠l:=qC (g3 _ _ e1) hl;generalize eG:upd H l (.lst (ws.map V.str))=G;have gG:qy G (upd H3 l (.lst (ws.map V.str))):=fun b u e=>by
    rw [← eG] at e
    by_cases hb:b=l
    ·rw [hb,upd_same] at e;rw [hb,upd_same];exact e
    ·rw [qu hb] at e;rw [qu hb];exact g3 _ _ (g2 _ _ e)
   have gHG:qy H G:=by
    rw [← eG];exact qh hlH _
   have hGl:G l=some (.lst (ws.map V.str)):=by rw [← eG];exact upd_same
   have sk0:Stk K ad.Opening G (upd H3 l (.lst (ws.map V.str))) ol [⟨p,l0⟩] [⟨"text",[]⟩]:=by
    refine ⟨g4 _ _ e0,.cons ⟨⟨dx,g4 _ _ e2⟩,⟨[],g4 _ _ e1,.nil⟩,rfl⟩ .nil,by simp,fun z hz=>?_,gG,?_,fun z hz=>?_⟩
    ·cases A0.mp hz;exact n0
    ·rw [← eG,qu nol];exact ol0
    ·cases A0.mp hz;rw [← eG,qu nl0];exact hl0'
   generalize upd H3 l (.lst (ws.map V.str))=H4 at sk0 e3 ⊢;refine wu ws.length (Iv_RdH_0 K ad y ol d ws G) ?_ (fun i σ H5 hi h=>?_) (fun σ H5 h=>?_)
   ·exact ⟨none,_,_,rfl,sk0,st,fun o ho=>by cases A0.mp ho;exact Ax _,Ax _⟩
   ·obtain ⟨o2,xs,S,rfl,sk,sts,hb,hS⟩:=h;obtain ⟨x,ex⟩:=vj (l:=ws) (i:=i) hi;have hxj:(ws.map V.str)[i]?=some (.str x):=by rw [Bq,ex];rfl
    have hls:=sk.g _ _ hGl;refine ⟨⟨_,_,SqL.of hls,hxj⟩,fun v H6 yl D' hn _=>?_⟩;obtain ⟨rfl,hv3⟩:=yl;cases hxj.symm.trans (hv3 _ (SqL.of hls));rw [qfg ex] at sts;cases sts with
    | cons s1 s2=>
     obtain ⟨k1,k2⟩:=qbn s1 hb;refine ⟨_,rfl,_,rfl,ol,x,G,xs,S,_,rfl,sk,s1,wl x (Bx ex),fun o ho=>Aw (hb o ho) ⋯,⋯,fun H7 xs' sk'=>hn _ _ ⟨_,xs',_,rfl,sk',s2,k1,⋯⟩⟩
   ·obtain ⟨o2,xs,S,rfl,sk,sts,hb,hS⟩:=h;have hls:=sk.g _ _ hGl;refine ⟨⟨_,SqL.of hls,by rw [Ah];exact Ax _⟩,h3 _ _ ?_⟩
    rw [List.drop_length] at sts;cases sts;obtain ⟨a,as,rfl⟩:=sk.shape;have pl:=Cw sk.at_;have as0:as=[]:=List.eq_nil_of_length_eq_zero (by simpa using pl)
    subst as0;obtain ⟨⟨dx5,ob⟩,⟨vs,hvs,rs⟩,nl⟩:=sk.top;have ls:=sk.ls;refine rs.ct fun v vs' ev rv rv'=>?_;cases rv'.nilI;subst ev;refine qv fun D4 h4 r4=>⟨_,rfl,.inl ⟨ol,_,0,_,rfl,rfl,SqL.of ls,ql (j:=0) rfl,a.p,_,dx5,_,_,rfl,ob,c.cl,c.aT,zj _ _,h4 _ _ ?_⟩⟩;refine qv fun D5 h5 r5=>qZ fun B b1 b2=>⟨_,rfl,_,_,rfl,.inl ⟨_,SqL.of ls,rfl⟩,rfl,_,rfl,zh rfl ?_⟩;refine ⟨_,rfl,_,_,rfl,.inl ⟨_,SqL.of hvs,rfl⟩,rfl,_,rfl,zh rfl ?_⟩;refine ⟨_,rfl,.inl ⟨a.l,_,0,_,rfl,rfl,SqL.of hvs,ql (j:=0) rfl,v,d,rfl,rv,gd.ft,fun H6 g6=>⟨_,rfl,?_⟩⟩⟩;refine bN (by rw [gd.pr];rfl) (b2 _ (h5 _ _ ⟨_,rfl,.inl ⟨a.l,_,0,_,rfl,rfl,SqL.of (g6 _ _ hvs),ql (j:=0) rfl,?_⟩⟩))
    exact q _ _ ((gHG.trans sk.g).trans g6) (rv.same g6)
  ·rw [hf] at ht;cases ht
 ·obtain ⟨d,gd,_⟩ | ⟨_,q⟩:=q
  ·rw [gd.tx] at ht;cases ht
  ·exact q _ (g2.trans g3)
inductive spLP (K:Frag) (n:Nat) (u:Str) (vs:List V) (H:Hp) (Q:VK) (E':XK):Prop
 | mk:∀ x d,(vs=[x])→(Rep K H x d)→(Sho.Kid n u d)→(∀ H' p,qy H H'→H p=none→H' p=some (.lst ((Sho.wP n d).map V.str))→Q (.ref p) H')→spLP K n u vs H Q E'
inductive spLB (K:Frag) (n:Nat) (vs:List V) (H:Hp) (Q:VK) (E':XK):Prop
 | mk:∀ x as,(vs=[x])→(Rep K H x (.tuple as))→(Sho.Row n as)→((Sho.bws (Sho.wP n) as).length≤700000)→(∀ H' p,qy H H'→H p=none→H' p=some (.lst ((Sho.bws (Sho.wP n) as).map V.str))→Q (.ref p) H')→spLB K n vs H Q E'
inductive spLF (K:Frag) (n:Nat) (vs:List V) (H:Hp) (Q:VK) (E':XK):Prop
 | mk:∀ x h ps as,(vs=[x])→(Rep K H x (.tuple [.str h,.tuple ps,.tuple as]))→(Sho.Nams ps)→(Sho.Row n as)→((Sho.fws (Sho.wP n) h ps as).length≤700000)→(∀ H' p,qy H H'→H p=none→H' p=some (.lst ((Sho.fws (Sho.wP n) h ps as).map V.str))→Q (.ref p) H')→spLF K n vs H Q E'
theorem YN {α β:Type} (g:α→List β) (as:List α) (i:Nat):((as.take i).map g).flatten.length≤(as.map g).flatten.length:=by
 have e:=congrArg (fun z=>(z.map g).flatten.length) (List.take_append_drop i as);simp only [A1,List.flatten_append,Ak] at e;omega
theorem vk {α β:Type} (g:α→List β) {as:List α} {i:Nat} {x:α} (h:as[i]?=some x):((as.take (i+1)).map g).flatten=((as.take i).map g).flatten++g x:=by
 rw [Bw,h,A1,List.flatten_append];simp
inductive Iv_WdA_0 (n:Nat) (H:Hp) (as:List Aa) (a:Ac) (i:Nat) (σ:St) (H':Hp):Prop
 | mk:∀ p o2,(σ=[some (.ref a),some (.ref p),o2])→(qy H H')→(H p=none)→(H' p=some (.lst ((("(":Str)::((as.take i).map (Sho.wP n)).flatten).map V.str)))→Iv_WdA_0 n H as a i σ H'
theorem Vi (F:Fun K "_law_bodies" "_law_bodies" Jq f fd) (c:Cs K mg ad) (n:Nat) (d_law_words:Def P w K mg base (4*n+4) "_law_words" ["_law_one"] (spLP K n "statement")):FnOk P w K mg base CX0 (4*n+5) f fd ["_law_body_here"] (spLB K n):=by
 refine F.ok (k:=4*n+4) j5 (fun vs H Q E h=>?_) (fun cdv A outer s H vs Q E hr h=>?_)
 ·obtain ⟨x,as,rfl,_⟩:=h;rfl
 obtain ⟨x,as,rfl,hk,row,hl,q⟩:=h;refine ⟨_,(qc (pst 1 j5.nd (qJ (qa qg qb)))
   (qc (JO C3 rfl (WY (K:=K) rfl (pv 0)) (pgn 2 j5.nd) (qf (pst 1 j5.nd (qo qA (pv 1) (pdf d_law_words (qa (pv 2) qb))))))
   (qf (qr (qo qA (pv 1) (qJ (qa qg qb))))))),?_⟩
 refine hk.tpl fun a ws ex hq rs=>?_;subst ex;have hwl:=rs.length;have hL:((as.map (Sho.wP n)).flatten).length+2≤700000:=by
  have e:(Sho.bws (Sho.wP n) as).length=((as.map (Sho.wP n)).flatten).length+2:=by
   unfold Sho.bws;rw [Aj,Ak];rfl
  omega
 refine qv fun D2 h2 r2=>⟨(O0:1≤Af),fun p0 hp0=>h2 _ _ ?_⟩;have g0:=qh hp0 (.lst [.str "("]);have e0:upd H p0 (.lst [.str "("]) p0=some (.lst [.str "("]):=upd_same;generalize upd H p0 (.lst [.str "("])=H0 at g0 e0 ⊢;refine ⟨_,rfl,.inr (.inl ⟨a,rfl,⟨ws,g0.sqT hq⟩,?_⟩)⟩;refine qe8 rs (Iv_WdA_0 n H as a) ?_ (fun i σ H' h=>?_) (fun i σ H3 v d hi he rd h D' hn _=>?_) (fun σ H2 h=>?_)
 ·exact ⟨p0,none,rfl,g0,hp0,e0⟩
 ·obtain ⟨p,o2,rfl,g2,hp,hp2⟩:=h;exact g2.sqT hq
 ·obtain ⟨p,o2,rfl,g2,hp,hp2⟩:=h;have kd:=row.kid d (Bx he);have l1:=YN (Sho.wP n) as (i+1);rw [vk _ he,Ak] at l1;refine ⟨_,rfl,_,rfl,v,d,rfl,rd.same g2,kd,fun H4 p4 g4 hp4 e4=>?_⟩;refine .inr (.inr ⟨p,p4,_,_,rfl,rfl,g4 _ _ hp2,e4,line ?_,fun p5 hp5=>hn _ _ ⟨p5,_,rfl,(g2.trans g4).trans (qh hp5 _),jF (g2.trans g4) hp5,?_⟩⟩)
  ·rw [Ah,Ah,Aj];omega
  ·rw [upd_same,vk _ he,← A1];rfl
 ·obtain ⟨p,o2,rfl,g2,hp,hp2⟩:=h;rw [Cb] at hp2;refine ⟨_,rfl,(O0:1≤Af),fun p3 hp3=>?_⟩;have g3:=g2.trans (qh hp3 (.lst [.str ")"]));refine .inr (.inr ⟨p,p3,_,_,rfl,rfl,qh hp3 _ _ _ hp2,upd_same,line ?_,fun p5 hp5=>?_⟩)
  ·rw [Ah,Aj];show _+1≤_;omega
  ·refine q _ p5 (g3.trans (qh hp5 _)) (jF g3 hp5) ?_;rw [upd_same];unfold Sho.bws;rw [As,As,A1];rfl
@[elab_as_elim] theorem qp {H0 H:Hp} {p:Ac} {o:HO} {R:Hp→Prop} (g:qy H0 H) (hp:H p=none) (q:∀ H',qy H0 H'→qy H H'→H0 p=none→H' p=some o→R H'):R (upd H p o):=q _ (g.trans (qh hp _)) (qh hp _) (jF g hp) upd_same
theorem yb {H:Hp}:∀ {vs:List V} {ps:List Aa},(∀ x∈ps,∃ y,x= .str y∧Tre.qG y=true)→Reps K H vs ps→vs=(ps.map Sho.strOf).map V.str
 | _,_,_,.nil=>rfl
 | _,_,h,.cons r t=>by
  obtain ⟨y,rfl,_⟩:=h _ Au;cases r.strI;rw [yb (fun x hx=>h x (Ao _ hx)) t];rfl
theorem jU (F:Fun K "_law_function_words" "_law_function_words" zx f fd) (c:Cs K mg ad) (n:Nat) (d_law_bodies:Def P w K mg base (4*n+5) "_law_bodies" ["_law_body_here"] (spLB K n)):FnOk P w K mg base CX0 (4*n+6) f fd ["_law_part"] (spLF K n):=by
 refine F.ok (k:=4*n+5) vt (fun vs H Q E h=>?_) (fun cdv A outer s H vs Q E hr h=>?_)
 ·obtain ⟨x,h,ps,as,rfl,_⟩:=h;rfl
 obtain ⟨x,h,ps,as,rfl,hk,nm,row,hl,q⟩:=h;refine ⟨_,(qf (qr (qo qA (qo qA (qo qA (qJ (qa qg (qa (pix K (pv 0) qd) (qa qg qb)))) (qM VY (by rfl) c.list_ qa3 (qa (pix K (pv 0) qd) qb))) (qJ (qa qg qb))) (zV (wQ (K:=K) rfl) (pdf d_law_bodies (qa (pix K (pv 0) qd) qb)) (ju qd) jM)))),?_⟩
 refine hk.tp3 fun a y1 y2 ex hq r1 r2=>?_;subst ex;refine r1.tpl fun b ys ey hb rb=>?_;subst ey;cases yb nm.2 rb;have hL:ps.length+((as.map (Sho.wP n)).flatten).length+5≤700000:=by
  have e:(Sho.fws (Sho.wP n) h ps as).length=ps.length+((as.map (Sho.wP n)).flatten).length+5:=by
   unfold Sho.fws;simp only [Aj,Ak,Ah,Ba];omega
  omega
 have lb:(Sho.bws (Sho.wP n) as).length=((as.map (Sho.wP n)).flatten).length+2:=by
  unfold Sho.bws;rw [Aj,Ak];rfl
 refine ⟨_,rfl,.inr (.inl ⟨a,_,0,_,rfl,rfl,hq,ql (j:=0) rfl,(O0:3≤Af),fun p1 hp1=>?_⟩)⟩;refine qp (qy.refl H) hp1 fun H1 g1 s1 n1 e1=>?_;refine ⟨_,rfl,.inr (.inl ⟨a,_,1,_,rfl,rfl,g1.sqT hq,ql (j:=1) rfl,b,_,rfl,.inr (g1.sqT hb),fun p2 hp2=>?_⟩)⟩;refine qp g1 hp2 fun H2 g2 s2 n2 e2=>?_;refine .inr (.inr ⟨p1,p2,_,_,rfl,rfl,s2 _ _ e1,e2,line ?_,fun p3 hp3=>?_⟩)
 ·simp only [Ak,Ah,Aj,Ba];omega
 refine qp g2 hp3 fun H3 g3 s3 n3 e3=>?_;refine ⟨(O0:1≤Af),fun p4 hp4=>?_⟩;refine qp g3 hp4 fun H4 g4 s4 n4 e4=>?_;refine .inr (.inr ⟨p3,p4,_,_,rfl,rfl,s4 _ _ e3,e4,line ?_,fun p5 hp5=>?_⟩)
 ·simp only [Ak,Ah,Aj,Ba];omega
 refine qp g4 hp5 fun H5 g5 s5 n5 e5=>?_;refine ⟨_,rfl,.inr (.inl ⟨a,_,2,_,rfl,rfl,g5.sqT hq,ql (j:=2) rfl,y2,as,rfl,r2.same g5,row,⋯,fun H6 p6 g6 n6 e6=>?_⟩)⟩;refine ⟨_,rfl,.inl ⟨p6,_,rfl,SqL.of e6,fun p7 hp7=>?_⟩⟩;refine qp (g5.trans g6) hp7 fun H7 g7 s7 n7 e7=>?_;have e7':H7 p7=some (.lst (((as.map (Sho.wP n)).flatten++[(")":Str)]).map V.str)):=by
  rw [e7];exact congrArg (fun z=>some (HO.lst z)) (qfm _ _)
 refine .inr (.inr ⟨p5,p7,_,_,rfl,rfl,s7 _ _ (g6 _ _ e5),e7',line ?_,fun p8 hp8=>?_⟩)
 ·simp only [Ak,Ah,Aj,Ba];omega
 refine qp g7 hp8 fun H8 g8 s8 n8 e8=>?_;refine q _ p8 g8 n8 ?_;rw [e8];unfold Sho.fws;simp
theorem Va (g:Aa→List Str) (as:List Aa):(Sho.bws g as).length=((as.map g).flatten).length+2:=by
 unfold Sho.bws;rw [Aj,Ak];rfl
def Yn (K:Frag) (n:Nat):TS:=zS (tOp zk (tOp zk (jz (qe (tC (V.str "(")) (qe (qk 1) qx))) (qI (spLP K n (Str.ofString "term")) [] E0 (qe (tOp (rIx K) (qk 0) (tC (V.int 1))) qx))) (jz (qe (tC (V.str ")")) qx)))
def Ym (K:Frag) (n:Nat):TS:=zS (tOp zk (tOp zk (jz (qe (tC (V.str "(")) (qe (qk 1) (qe (tOp (rIx K) (qk 0) (tC (V.int 1))) qx)))) (qI (spLP K n (Str.ofString "term")) [] E0 (qe (tOp (rIx K) (qk 0) (tC (V.int 2))) qx))) (jz (qe (tC (V.str ")")) qx)))
def Yl (K:Frag) (n:Nat):TS:=zS (tOp zk (tOp zk (tOp zk (tOp zk (tOp zk (jz (qe (tC (V.str "(")) (qe (qk 1) qx))) (qI (spLB K n) [] E0 (qe (tOp (rIx K) (qk 0) (tC (V.int 1))) qx))) (jz (qe (tOp (rIx K) (qk 0) (tC (V.int 2))) (qe (tOp (rIx K) (qk 0) (tC (V.int 3))) qx)))) (qI (spLB K n) [] E0 (qe (tOp (rIx K) (qk 0) (tC (V.int 4))) qx))) (qI (spLB K n) [] E0 (qe (tOp (rIx K) (qk 0) (tC (V.int 5))) qx))) (jz (qe (tC (V.str ")")) qx)))
def Yk (K:Frag) (n:Nat):TS:=zF (tOp zk (qk 2) (qI (spLB K n) [] E0 (qe (tOp (rIx K) (qk 0) (tC (V.int 3))) qx))) (qE 2)
def Yj:TS:=zS (tOp zk (qk 2) (jz (qe (tC (V.str ")")) qx)))
def Yi (K:Frag) (n:Nat):TS:=qO (zO (qW (tOp rEq (qk 1) (tC (V.str "if")))) (Yk K n) zn) Yj
def Yh (K:Frag) (n:Nat):TS:=qO (zF (tOp zk (tOp zk (jz (qe (tC (V.str "(")) (qe (qk 1) qx))) (qI (spLP K n (Str.ofString "term")) [] E0 (qe (tOp (rIx K) (qk 0) (tC (V.int 1))) qx))) (qI (spLB K n) [] E0 (qe (tOp (rIx K) (qk 0) (tC (V.int 2))) qx))) (qE 2)) (Yi K n)
def Yg (K:Frag) (n:Nat):TS:=qO (zO (qW (tOp rEq (qk 1) (tC (V.str "try")))) (Yl K n) zn) (Yh K n)
def Yf (K:Frag) (n:Nat):TS:=qO (zO (qW (tOp (rIn K false) (qk 1) (Jm (qe (tC (V.str "let")) (qe (tC (V.str "set")) (qe (tC (V.str "fault")) qx)))))) (Ym K n) zn) (Yg K n)
def Ye (K:Frag) (n:Nat):TS:=qO (zO (qW (tOp (rIn K false) (qk 1) (Jm (qe (tC (V.str "do")) (qe (tC (V.str "hand")) (qe (tC (V.str "back")) qx)))))) (Yn K n) zn) (Yf K n)
theorem Xs (F:Fun K "_law_words" "_law_words" JG f fd) (c:Cs K mg ad) (n:Nat) (d_law_term_words:Def P w K mg base (4*n+3) "_law_term_words" ["_law_term_here"] (spLP K n "term")) (d_law_bodies:Def P w K mg base (4*n+5) "_law_bodies" ["_law_body_here"] (spLB K n)):FnOk P w K mg base CX0 (4*n+8) f fd ["_law_one"] (spLP K (n+1) "statement"):=by
 refine F.ok (k:=4*n+7) Jo (fun vs H Q E h=>?_) (fun cdv A outer s H vs Q E hr h=>?_)
 ·obtain ⟨x,d,rfl,_⟩:=h;rfl
 obtain ⟨x,d,rfl,hk,kd,q⟩:=h;refine ⟨_,(qc (pst 1 Jo.nd (pix K (pv 0) qd))
   (qc (qD (qq (vR (K:=K) rfl) (pv 1) (qB (qa qg (qa qg (qa qg qb)))) rfl) (qf (qr (qo qA (qo qA (qJ (qa qg (qa (pv 1) qb))) (pdf d_law_term_words (qa (pix K (pv 0) qd) qb))) (qJ (qa qg qb))))) qt)
   (qc (qD (qq (vR (K:=K) rfl) (pv 1) (qB (qa qg (qa qg (qa qg qb)))) rfl) (qf (qr (qo qA (qo qA (qJ (qa qg (qa (pv 1) (qa (pix K (pv 0) qd) qb)))) (pdf d_law_term_words (qa (pix K (pv 0) qd) qb))) (qJ (qa qg qb))))) qt)
   (qc (qD (qq qT (pv 1) qg (qw _)) (qf (qr (qo qA (qo qA (qo qA (qo qA (qo qA (qJ (qa qg (qa (pv 1) qb))) (pdf d_law_bodies (qa (pix K (pv 0) qd) qb))) (qJ (qa (pix K (pv 0) qd) (qa (pix K (pv 0) qd) qb)))) (pdf d_law_bodies (qa (pix K (pv 0) qd) qb))) (pdf d_law_bodies (qa (pix K (pv 0) qd) qb))) (qJ (qa qg qb))))) qt)
   (qc (pst 2 Jo.nd (qo qA (qo qA (qJ (qa qg (qa (pv 1) qb))) (pdf d_law_term_words (qa (pix K (pv 0) qd) qb))) (pdf d_law_bodies (qa (pix K (pv 0) qd) qb))))
   (qc (qD (qq qT (pv 1) qg (qw _)) (qf (pst 2 Jo.nd (qo qA (pv 2) (pdf d_law_bodies (qa (pix K (pv 0) qd) qb))))) qt)
   (qf (qr (qo qA (pv 2) (qJ (qa qg qb))))))))))),?_⟩
 show qO (zF (tOp (rIx K) (qk 0) (tC (V.int 0))) (qE 1)) (Ye K n) _ _ _;have tot:=Sho.kid_len kd;have in3:∀ h a b c:Str,inV (.str h) [.str a,.str b,.str c]=([a,b,c]:List Str).contains h:=fun h a b c=>jn h [a,b,c];cases Sho.stm_view kd with
 | @one h t hh kt=>
  rw [Sho.wP_one hh] at tot q;have l1:(Sho.wP n t).length+3≤600000:=by
   rw [Aj,Aj,Ak] at tot;exact tot
  refine hk.tp2 fun a y1 ex hq r1=>?_;subst ex;refine qv fun D2 h2 r2=>⟨_,rfl,.inr (.inl ⟨a,_,0,_,rfl,rfl,hq,ql (j:=0) rfl,h2 _ _ (qv fun D3 h3 r3=>qZ fun B b1 b2=>⟨_,rfl,(O0:3≤Af),fun q2 hq2=>⟨q2,_,rfl,.inr (SqT.of upd_same),rfl,rfl,_,rfl,?_⟩⟩)⟩)⟩;rw [if_neg Ai,in3];refine qp (qy.refl H) hq2 fun H0 g0 _ _ _=>?_;refine bP (Cn.mpr hh) (b1 _ ⟨_,rfl,(O0:2≤Af),fun p1 hp1=>?_⟩);refine qp g0 hp1 fun H1 g1 s1 n1 e1=>?_;refine ⟨_,rfl,.inr (.inl ⟨a,_,1,_,rfl,rfl,g1.sqT hq,ql (j:=1) rfl,y1,t,rfl,r1.same g1,kt,fun H2 p2 g2 n2 e2=>?_⟩)⟩;refine .inr (.inr ⟨p1,p2,_,_,rfl,rfl,g2 _ _ e1,e2,line ?_,fun p3 hp3=>?_⟩)
  ·simp only [Ak,Ah,Aj,Ba];omega
  refine qp (g1.trans g2) hp3 fun H3 g3 s3 n3 e3=>?_;refine ⟨(O0:1≤Af),fun p4 hp4=>?_⟩;refine qp g3 hp4 fun H4 g4 s4 n4 e4=>?_;refine .inr (.inr ⟨p3,p4,_,_,rfl,rfl,s4 _ _ e3,e4,line ?_,fun p5 hp5=>?_⟩)
  ·simp only [Ak,Ah,Aj,Ba];omega
  refine qp g4 hp5 fun H5 g5 s5 n5 e5=>r3 _ _ (q _ p5 g5 n5 ?_);rw [e5];simp
 | @two h x t hh kt=>
  rw [Sho.wP_let hh] at tot q;have l1:(Sho.wP n t).length+4≤600000:=by
   rw [Aj,Aj,Aj,Ak] at tot;exact tot
  have nh:(["do","hand","back"]:List Str).contains h=false:=by
   have z:∀ h∈(["let","set","fault"]:List Str),(["do","hand","back"]:List Str).contains h=false:=∅;exact z h hh
  refine hk.tp3 fun a y1 y2 ex hq r1 r2=>?_;subst ex;obtain rfl:=r1.strI;refine qv fun D2 h2 _=>⟨_,rfl,.inr (.inl ⟨a,_,0,_,rfl,rfl,hq,ql (j:=0) rfl,h2 _ _ (qv fun D3 h3 r3=>qZ fun B b1 b2=>⟨_,rfl,(O0:3≤Af),fun q2 hq2=>⟨q2,_,rfl,.inr (SqT.of upd_same),rfl,rfl,_,rfl,?_⟩⟩)⟩)⟩;rw [if_neg Ai,in3];refine qp (qy.refl H) hq2 fun H0 g0 _ _ _=>?_;refine bN nh (b2 _ (h3 _ _ (qv fun D4 h4 r4=>qZ fun B b1 b2=>⟨_,rfl,(O0:3≤Af),fun q3 hq3=>⟨q3,_,rfl,.inr (SqT.of upd_same),rfl,rfl,_,rfl,?_⟩⟩)));rw [if_neg Ai,in3];refine qp g0 hq3 fun H0 g0 _ _ _=>?_;refine bP (Cn.mpr hh) (b1 _ ⟨_,rfl,_,rfl,.inr (.inl ⟨a,_,1,_,rfl,rfl,g0.sqT hq,ql (j:=1) rfl,(O0:3≤Af),fun p1 hp1=>?_⟩)⟩);refine qp g0 hp1 fun H1 g1 s1 n1 e1=>?_;refine ⟨_,rfl,.inr (.inl ⟨a,_,2,_,rfl,rfl,g1.sqT hq,ql (j:=2) rfl,y2,t,rfl,r2.same g1,kt,fun H2 p2 g2 n2 e2=>?_⟩)⟩;refine .inr (.inr ⟨p1,p2,_,_,rfl,rfl,g2 _ _ e1,e2,line ?_,fun p3 hp3=>?_⟩)
  ·simp only [Ak,Ah,Aj,Ba];omega
  refine qp (g1.trans g2) hp3 fun H3 g3 s3 n3 e3=>?_;refine ⟨(O0:1≤Af),fun p4 hp4=>?_⟩;refine qp g3 hp4 fun H4 g4 s4 n4 e4=>?_;refine .inr (.inr ⟨p3,p4,_,_,rfl,rfl,s4 _ _ e3,e4,line ?_,fun p5 hp5=>?_⟩)
  ·simp only [Ak,Ah,Aj,Ba];omega
  refine qp g4 hp5 fun H5 g5 s5 n5 e5=>?_;refine r4 _ _ (q _ p5 g5 n5 ?_);rw [e5];simp
 | @try_ x y as bs cs ra rb rc=>
  rw [Sho.wP_try] at tot q;have ba:=Va (Sho.wP n) as;have bb:=Va (Sho.wP n) bs;have bc:=Va (Sho.wP n) cs;simp only [Ak,Aj,Ba] at tot;refine hk.tp6 fun a y1 y2 y3 y4 y5 ex hq r1 r2 r3 r4 r5=>?_;subst ex;obtain rfl:=r2.strI;obtain rfl:=r3.strI;refine qv fun D2 h2 _=>⟨_,rfl,.inr (.inl ⟨a,_,0,_,rfl,rfl,hq,ql (j:=0) rfl,h2 _ _ (qv fun D3 h3 z3=>qZ fun B b1 b2=>⟨_,rfl,(O0:3≤Af),fun q2 hq2=>⟨q2,_,rfl,.inr (SqT.of upd_same),rfl,rfl,_,rfl,?_⟩⟩)⟩)⟩;rw [if_neg Ai,in3];refine qp (qy.refl H) hq2 fun H0 g0 _ _ _=>?_;refine bN ∅ (b2 _ (h3 _ _ (qv fun D4 h4 z4=>qZ fun B b1 b2=>⟨_,rfl,(O0:3≤Af),fun q3 hq3=>⟨q3,_,rfl,.inr (SqT.of upd_same),rfl,rfl,_,rfl,?_⟩⟩)));rw [if_neg Ai,in3];refine qp g0 hq3 fun H0 g0 _ _ _=>?_;refine bN ∅ (b2 _ (h4 _ _ (qv fun D5 h5 z5=>qZ fun B b1 b2=>⟨_,rfl,rfl,_,rfl,?_⟩)));refine bP (deq rfl) (b1 _ ⟨_,rfl,(O0:2≤Af),fun p1 hp1=>?_⟩);refine qp g0 hp1 fun H1 g1 s1 n1 e1=>?_;refine ⟨_,rfl,.inr (.inl ⟨a,_,1,_,rfl,rfl,(g1).sqT hq,ql (j:=1) rfl,y1,as,rfl,r1.same (g1),ra,⋯,fun H2 p2 g2 n2 e2=>?_⟩)⟩;refine .inr (.inr ⟨p1,p2,_,_,rfl,rfl,g2 _ _ e1,e2,line ?_,fun p3 hp3=>?_⟩)
  ·simp only [Ak,Ah,Aj,Ba];omega
  refine qp (g1.trans g2) hp3 fun H3 g3 s3 n3 e3=>?_;refine ⟨_,rfl,.inr (.inl ⟨a,_,2,_,rfl,rfl,g3.sqT hq,ql (j:=2) rfl,_,rfl,.inr (.inl ⟨a,_,3,_,rfl,rfl,g3.sqT hq,ql (j:=3) rfl,(O0:2≤Af),fun p4 hp4=>?_⟩)⟩)⟩;refine qp g3 hp4 fun H4 g4 s4 n4 e4=>?_;refine .inr (.inr ⟨p3,p4,_,_,rfl,rfl,s4 _ _ e3,e4,line ?_,fun p5 hp5=>?_⟩)
  ·simp only [Ak,Ah,Aj,Ba];omega
  refine qp g4 hp5 fun H5 g5 s5 n5 e5=>?_;refine ⟨_,rfl,.inr (.inl ⟨a,_,4,_,rfl,rfl,(g5).sqT hq,ql (j:=4) rfl,y4,bs,rfl,r4.same (g5),rb,⋯,fun H6 p6 g6 n6 e6=>?_⟩)⟩;refine .inr (.inr ⟨p5,p6,_,_,rfl,rfl,g6 _ _ e5,e6,line ?_,fun p7 hp7=>?_⟩)
  ·simp only [Ak,Ah,Aj,Ba];omega
  refine qp (g5.trans g6) hp7 fun H7 g7 s7 n7 e7=>?_;refine ⟨_,rfl,.inr (.inl ⟨a,_,5,_,rfl,rfl,(g7).sqT hq,ql (j:=5) rfl,y5,cs,rfl,r5.same (g7),rc,⋯,fun H8 p8 g8 n8 e8=>?_⟩)⟩;refine .inr (.inr ⟨p7,p8,_,_,rfl,rfl,g8 _ _ e7,e8,line ?_,fun p9 hp9=>?_⟩)
  ·simp only [Ak,Ah,Aj,Ba];omega
  refine qp (g7.trans g8) hp9 fun H9 g9 s9 n9 e9=>?_;refine ⟨(O0:1≤Af),fun p10 hp10=>?_⟩;refine qp g9 hp10 fun H10 g10 s10 n10 e10=>?_;refine .inr (.inr ⟨p9,p10,_,_,rfl,rfl,s10 _ _ e9,e10,line ?_,fun p11 hp11=>?_⟩)
  ·simp only [Ak,Ah,Aj,Ba];omega
  refine qp g10 hp11 fun H11 g11 s11 n11 e11=>?_;refine z5 _ _ (q _ p11 g11 n11 ?_);rw [e11];simp
 | @while_ t as kt ra=>
  rw [Sho.wP_while] at tot q;have ba:=Va (Sho.wP n) as;simp only [Ak,Aj,Ba] at tot;refine hk.tp3 fun a y1 y2 ex hq r1 r2=>?_;subst ex;refine qv fun D2 h2 _=>⟨_,rfl,.inr (.inl ⟨a,_,0,_,rfl,rfl,hq,ql (j:=0) rfl,h2 _ _ (qv fun D3 h3 z3=>qZ fun B b1 b2=>⟨_,rfl,(O0:3≤Af),fun q2 hq2=>⟨q2,_,rfl,.inr (SqT.of upd_same),rfl,rfl,_,rfl,?_⟩⟩)⟩)⟩;rw [if_neg Ai,in3];refine qp (qy.refl H) hq2 fun H0 g0 _ _ _=>?_;refine bN ∅ (b2 _ (h3 _ _ (qv fun D4 h4 z4=>qZ fun B b1 b2=>⟨_,rfl,(O0:3≤Af),fun q3 hq3=>⟨q3,_,rfl,.inr (SqT.of upd_same),rfl,rfl,_,rfl,?_⟩⟩)));rw [if_neg Ai,in3];refine qp g0 hq3 fun H0 g0 _ _ _=>?_;refine bN ∅ (b2 _ (h4 _ _ (qv fun D5 h5 z5=>qZ fun B b1 b2=>⟨_,rfl,rfl,_,rfl,?_⟩)));refine bN (dne ∅) (b2 _ (h5 _ _ (qv fun D6 h6 z6=>⟨_,rfl,(O0:2≤Af),fun p1 hp1=>?_⟩)));refine qp g0 hp1 fun H1 g1 s1 n1 e1=>?_;refine ⟨_,rfl,.inr (.inl ⟨a,_,1,_,rfl,rfl,g1.sqT hq,ql (j:=1) rfl,y1,t,rfl,r1.same g1,kt,fun H2 p2 g2 n2 e2=>?_⟩)⟩;refine .inr (.inr ⟨p1,p2,_,_,rfl,rfl,g2 _ _ e1,e2,line ?_,fun p3 hp3=>?_⟩)
  ·simp only [Ak,Ah,Aj,Ba];omega
  refine qp (g1.trans g2) hp3 fun H3 g3 s3 n3 e3=>?_;refine ⟨_,rfl,.inr (.inl ⟨a,_,2,_,rfl,rfl,(g3).sqT hq,ql (j:=2) rfl,y2,as,rfl,r2.same (g3),ra,⋯,fun H4 p4 g4 n4 e4=>?_⟩)⟩;refine .inr (.inr ⟨p3,p4,_,_,rfl,rfl,g4 _ _ e3,e4,line ?_,fun p5 hp5=>?_⟩)
  ·simp only [Ak,Ah,Aj,Ba];omega
  refine qp (g3.trans g4) hp5 fun H5 g5 s5 n5 e5=>?_;refine h6 _ _ (qv fun D7 h7 z7=>qZ fun B b1 b2=>⟨_,rfl,rfl,_,rfl,bN (dne ∅) (b2 _ (h7 _ _ ⟨_,rfl,(O0:1≤Af),fun p6 hp6=>?_⟩))⟩);refine qp g5 hp6 fun H6 g6 s6 n6 e6=>?_;refine .inr (.inr ⟨p5,p6,_,_,rfl,rfl,s6 _ _ e5,e6,line ?_,fun p7 hp7=>?_⟩)
  ·simp only [Ak,Ah,Aj,Ba];omega
  refine qp g6 hp7 fun H7 g7 s7 n7 e7=>?_;refine q _ p7 g7 n7 ?_;rw [e7];simp
 | @if_ t as bs kt ra rb=>
  rw [Sho.wP_if] at tot q;have ba:=Va (Sho.wP n) as;have bb:=Va (Sho.wP n) bs;simp only [Ak,Aj,Ba] at tot;refine hk.tp4 fun a y1 y2 y3 ex hq r1 r2 r3=>?_;subst ex;refine qv fun D2 h2 _=>⟨_,rfl,.inr (.inl ⟨a,_,0,_,rfl,rfl,hq,ql (j:=0) rfl,h2 _ _ (qv fun D3 h3 z3=>qZ fun B b1 b2=>⟨_,rfl,(O0:3≤Af),fun q2 hq2=>⟨q2,_,rfl,.inr (SqT.of upd_same),rfl,rfl,_,rfl,?_⟩⟩)⟩)⟩;rw [if_neg Ai,in3];refine qp (qy.refl H) hq2 fun H0 g0 _ _ _=>?_;refine bN ∅ (b2 _ (h3 _ _ (qv fun D4 h4 z4=>qZ fun B b1 b2=>⟨_,rfl,(O0:3≤Af),fun q3 hq3=>⟨q3,_,rfl,.inr (SqT.of upd_same),rfl,rfl,_,rfl,?_⟩⟩)));rw [if_neg Ai,in3];refine qp g0 hq3 fun H0 g0 _ _ _=>?_;refine bN ∅ (b2 _ (h4 _ _ (qv fun D5 h5 z5=>qZ fun B b1 b2=>⟨_,rfl,rfl,_,rfl,?_⟩)));refine bN (dne ∅) (b2 _ (h5 _ _ (qv fun D6 h6 z6=>⟨_,rfl,(O0:2≤Af),fun p1 hp1=>?_⟩)));refine qp g0 hp1 fun H1 g1 s1 n1 e1=>?_;refine ⟨_,rfl,.inr (.inl ⟨a,_,1,_,rfl,rfl,g1.sqT hq,ql (j:=1) rfl,y1,t,rfl,r1.same g1,kt,fun H2 p2 g2 n2 e2=>?_⟩)⟩;refine .inr (.inr ⟨p1,p2,_,_,rfl,rfl,g2 _ _ e1,e2,line ?_,fun p3 hp3=>?_⟩)
  ·simp only [Ak,Ah,Aj,Ba];omega
  refine qp (g1.trans g2) hp3 fun H3 g3 s3 n3 e3=>?_;refine ⟨_,rfl,.inr (.inl ⟨a,_,2,_,rfl,rfl,(g3).sqT hq,ql (j:=2) rfl,y2,as,rfl,r2.same (g3),ra,⋯,fun H4 p4 g4 n4 e4=>?_⟩)⟩;refine .inr (.inr ⟨p3,p4,_,_,rfl,rfl,g4 _ _ e3,e4,line ?_,fun p5 hp5=>?_⟩)
  ·simp only [Ak,Ah,Aj,Ba];omega
  refine qp (g3.trans g4) hp5 fun H5 g5 s5 n5 e5=>?_;refine h6 _ _ (qv fun D7 h7 z7=>qZ fun B b1 b2=>⟨_,rfl,rfl,_,rfl,bP (deq rfl) (b1 _ ?_)⟩);refine ⟨_,rfl,?_⟩;refine ⟨_,rfl,.inr (.inl ⟨a,_,3,_,rfl,rfl,(g5).sqT hq,ql (j:=3) rfl,y3,bs,rfl,r3.same (g5),rb,⋯,fun H6 p6 g6 n6 e6=>?_⟩)⟩;refine .inr (.inr ⟨p5,p6,_,_,rfl,rfl,g6 _ _ e5,e6,line ?_,fun p7 hp7=>?_⟩)
  ·simp only [Ak,Ah,Aj,Ba];omega
  refine qp (g5.trans g6) hp7 fun H7 g7 s7 n7 e7=>?_;refine h7 _ _ ⟨_,rfl,(O0:1≤Af),fun p8 hp8=>?_⟩;refine qp g7 hp8 fun H8 g8 s8 n8 e8=>?_;refine .inr (.inr ⟨p7,p8,_,_,rfl,rfl,s8 _ _ e7,e8,line ?_,fun p9 hp9=>?_⟩)
  ·simp only [Ak,Ah,Aj,Ba];omega
  refine qp g8 hp9 fun H9 g9 s9 n9 e9=>?_;refine q _ p9 g9 n9 ?_;rw [e9];simp
inductive Iv_WdC_0 (n:Nat) (H:Hp) (a:Ac) (h:Str) (t:Aa) (ds:List Aa) (H0:Hp) (i:Nat) (σ:St) (H':Hp):Prop
 | mk:∀ p o2,(σ=[some (.ref a),some (.ref p),o2])→(qy H0 H')→(H p=none)→(H' p=some (.lst ((("(":Str)::h::(Sho.wP n t++((ds.take i).map (Sho.wP n)).flatten)).map V.str)))→Iv_WdC_0 n H a h t ds H0 i σ H'
def VD (K:Frag):TS:=zS (jz (qe (tCB (fun xs H Q=>(∃ x,xs=[V.str x]∧Q (V.str x) H)∨∃ i,xs=[V.int i]∧i.natAbs.log2<1920∧Q (V.str (Str.ofString (toString i))) H) (qe (tOp (rIx K) (qk 0) (tC (V.int 1))) qx)) qx))
def VC (K:Frag):TS:=zS (jz (qe (tOp (rIx K) (qk 0) (tC (V.int 1))) qx))
def VB (K:Frag) (n:Nat):TS:=zS (tOp zk (tOp zk (tOp zk (jz (qe (tC (V.str "(")) (qe (tOp (rIx K) (qk 0) (tC (V.int 1))) qx))) (qI (spLP K n (Str.ofString "term")) [] E0 (qe (tOp (rIx K) (qk 0) (tC (V.int 2))) qx))) (qI (spLP K n (Str.ofString "term")) [] E0 (qe (tOp (rIx K) (qk 0) (tC (V.int 3))) qx))) (jz (qe (tC (V.str ")")) qx)))
def VA (K:Frag) (n:Nat):TS:=zS (qI (spLF K n) [] E0 (qe (qk 0) qx))
def Vz (K:Frag) (n:Nat):TS:=zF (tOp zk (qk 1) (qI (spLP K n (Str.ofString "term")) [] E0 (qe (qk 2) qx))) (qE 1)
def Vy:TS:=zS (tOp zk (qk 1) (jz (qe (tC (V.str ")")) qx)))
def Vx (K:Frag) (n:Nat):TS:=qO (Qa (QO K (tIf (qW (tOp rEq (tOp (rIx K) (qk 0) (tC (V.int 0))) (tC (V.str "call")))) (tCB (fun xs H_1 Q=>∃ p ys,xs=[V.ref p]∧(SqL K H_1 p ys∨SqT K H_1 p ys)∧∀ (l:Ac),H_1 l=none→Q (V.ref l) (upd H_1 l (HO.lst ys))) (qe (tOp (rIx K) (qk 0) (tC (V.int 2))) qx)) (jz (qe (tOp (rIx K) (qk 0) (tC (V.int 2))) qx)))) (qE 2) (Vz K n)) Vy
def Vw (K:Frag) (n:Nat):TS:=qO (zF (tOp zk (jz (qe (tC (V.str "(")) (qe (tOp (rIx K) (qk 0) (tC (V.int 0))) qx))) (qI (spLP K n (Str.ofString "term")) [] E0 (qe (tOp (rIx K) (qk 0) (tC (V.int 1))) qx))) (qE 1)) (Vx K n)
def Vv (K:Frag) (n:Nat):TS:=qO (zO (qW (tOp (rIn K false) (tOp (rIx K) (qk 0) (tC (V.int 0))) (Jm (qe (tC (V.str "fun")) (qe (tC (V.str "loop")) qx))))) (VA K n) zn) (Vw K n)
def Vu (K:Frag) (n:Nat):TS:=qO (zO (qW (tOp rEq (tOp (rIx K) (qk 0) (tC (V.int 0))) (tC (V.str "two")))) (VB K n) zn) (Vv K n)
def Vc (K:Frag) (n:Nat):TS:=qO (zO (qW (tOp rEq (tOp (rIx K) (qk 0) (tC (V.int 0))) (tC (V.str "name")))) (VC K) zn) (Vu K n)
theorem VP (F:Fun K "_law_term_words" "_law_term_words" jr f fd) (c:Cs K mg ad) (n:Nat) (d_law_term_words:Def P w K mg base (4*n+3) "_law_term_words" ["_law_term_here"] (spLP K n "term")) (d_law_function_words:Def P w K mg base (4*n+6) "_law_function_words" ["_law_part"] (spLF K n)):FnOk P w K mg base CX0 (4*n+7) f fd ["_law_term_here"] (spLP K (n+1) "term"):=by
 refine F.ok (k:=4*n+6) jg (fun vs H Q E h=>?_) (fun cdv A outer s H vs Q E hr h=>?_)
 ·obtain ⟨x,d,rfl,_⟩:=h;rfl
 obtain ⟨x,d,rfl,hk,kd,q⟩:=h;refine ⟨_,(qc (qD (qq qT (pix K (pv 0) qd) qg (qw _)) (qf (qr (qJ (qa (qM qdb (by rfl) c.str_ vU (qa (pix K (pv 0) qd) qb)) qb)))) qt)
   (qc (qD (qq qT (pix K (pv 0) qd) qg (qw _)) (qf (qr (qJ (qa (pix K (pv 0) qd) qb)))) qt)
   (qc (qD (qq qT (pix K (pv 0) qd) qg (qw _)) (qf (qr (qo qA (qo qA (qo qA (qJ (qa qg (qa (pix K (pv 0) qd) qb))) (pdf d_law_term_words (qa (pix K (pv 0) qd) qb))) (pdf d_law_term_words (qa (pix K (pv 0) qd) qb))) (qJ (qa qg qb))))) qt)
   (qc (qD (qq (vR (K:=K) rfl) (pix K (pv 0) qd) (qB (qa qg (qa qg qb))) rfl) (qf (qr (pdf d_law_function_words (qa (pv 0) qb)))) qt)
   (qc (pst 1 jg.nd (qo qA (qJ (qa qg (qa (pix K (pv 0) qd) qb))) (pdf d_law_term_words (qa (pix K (pv 0) qd) qb))))
   (qc (JO C3 rfl (WY (K:=K) rfl (vK (qq qT (pix K (pv 0) qd) qg (qw _)) (qM VY (by rfl) c.list_ qa3 (qa (pix K (pv 0) qd) qb)) (qJ (qa (pix K (pv 0) qd) qb)))) (pgn 2 jg.nd) (qf (pst 1 jg.nd (qo qA (pv 1) (pdf d_law_term_words (qa (pv 2) qb))))))
   (qf (qr (qo qA (pv 1) (qJ (qa qg qb))))))))))),?_⟩
 show qO (zO (qW (tOp rEq (tOp (rIx K) (qk 0) (tC (V.int 0))) (tC (V.str "number")))) (VD K) zn) (Vc K n) _ _ _;have tot:=Sho.kid_len kd;have late:∀ (a:Ac) (h:Str) (y1 y2:V) (t:Aa) (xs:List V) (ds:List Aa) (D6:Ends),SqT K H a [.str h,y1,y2]→Rep K H y1 t→Sho.Kid n "term" t→Reps K H xs ds→(∀ x∈ds,Sho.Kid n "term" x)→(Sho.wP n t).length+((ds.map (Sho.wP n)).flatten).length+3≤600000→∀ H0 p0,qy H H0→H p0=none→H0 p0=some (.lst ((("(":Str)::h::Sho.wP n t).map V.str))→∀ pl,SqL K H0 pl xs→
   (∀ H' p o,qy H H'→H p=none→H' p=some (.lst ((("(":Str)::h::(Sho.wP n t++(ds.map (Sho.wP n)).flatten)).map V.str))→D6.nx [some (.ref a),some (.ref p),o] H')→
   Lp (Itl K pl) (qE 2) (zF (tOp zk (qk 1) (qI (spLP K n "term") [] E0 (qe (qk 2) qx))) (qE 1)) D6 [some (.ref a),some (.ref p0),none] H0:=by
  intro a h y1 y2 t xs ds D6 hq r1 kt rs kds hl H0 p0 g0 n0 e0 pl hpl fin;refine qjs rs (Iv_WdC_0 n H a h t ds H0) ?_ (fun i σ H' hh=>?_) (fun i σ H3 v d hi he rd hh D' hn _=>?_) (fun σ H2 hh=>?_)
  ·refine ⟨p0,none,rfl,qy.refl _,n0,?_⟩;rw [List.take_zero,Cd,List.flatten_nil,Bi];exact e0
  ·obtain ⟨p,o2,rfl,g2,hp,hp2⟩:=hh;exact g2.seq hpl
  ·obtain ⟨p,o2,rfl,g2,hp,hp2⟩:=hh;have l1:=YN (Sho.wP n) ds (i+1);rw [vk _ he,Ak] at l1;refine ⟨_,rfl,_,rfl,v,d,rfl,rd.same (g0.trans g2),kds d (Bx he),fun H4 p4 g4 hp4 e4=>?_⟩;refine .inr (.inr ⟨p,p4,_,_,rfl,rfl,g4 _ _ hp2,e4,line ?_,fun p5 hp5=>?_⟩)
   ·simp only [Ak,Ah,Aj,Ba];omega
   refine qp (g2.trans g4) hp5 fun H5 g5 s5 n5 e5=>hn _ _ ⟨p5,_,rfl,g5,jF g0 n5,?_⟩;rw [e5,vk _ he];simp
  ·obtain ⟨p,o2,rfl,g2,hp,hp2⟩:=hh;rw [Cb] at hp2;exact fin _ p _ (g0.trans g2) hp hp2
 cases Sho.trm_view kd with
 | @num i hi=>
  rw [Sho.wP_num] at q;refine hk.tp2 fun a y1 ex hq r1=>?_;subst ex;cases r1;refine qv fun D2 h2 z2=>qZ fun B b1 b2=>⟨_,rfl,.inr (.inl ⟨a,_,0,_,rfl,rfl,hq,ql (j:=0) rfl,rfl,_,rfl,bP (deq rfl) (b1 _ ?_)⟩)⟩;refine ⟨_,rfl,.inr (.inl ⟨a,_,1,_,rfl,rfl,hq,ql (j:=1) rfl,.inr ⟨i,rfl,Tre.VT hi,(O0:1≤Af),fun p1 hp1=>?_⟩⟩)⟩;refine qp (qy.refl H) hp1 fun H1 g1 s1 n1 e1=>z2 _ _ (q _ p1 g1 n1 e1)
 | @name x=>
  rw [Sho.wP_name] at q;refine hk.tp2 fun a y1 ex hq r1=>?_;subst ex;cases r1.strI;refine qv fun D2 h2 z2=>qZ fun B b1 b2=>⟨_,rfl,.inr (.inl ⟨a,_,0,_,rfl,rfl,hq,ql (j:=0) rfl,rfl,_,rfl,bN (dne ∅) (b2 _ (h2 _ _ ?_))⟩)⟩;refine qv fun D3 h3 z3=>qZ fun B b1 b2=>⟨_,rfl,.inr (.inl ⟨a,_,0,_,rfl,rfl,hq,ql (j:=0) rfl,rfl,_,rfl,bP (deq rfl) (b1 _ ?_)⟩)⟩;refine ⟨_,rfl,.inr (.inl ⟨a,_,1,_,rfl,rfl,hq,ql (j:=1) rfl,(O0:1≤Af),fun p1 hp1=>?_⟩)⟩;refine qp (qy.refl H) hp1 fun H1 g1 s1 n1 e1=>z3 _ _ (q _ p1 g1 n1 e1)
 | @two g t u kt ku=>
  rw [Sho.wP_two] at tot q;simp only [Ak,Aj,Ba] at tot;refine hk.tp4 fun a y1 y2 y3 ex hq r1 r2 r3=>?_;subst ex;obtain rfl:=r1.strI;refine qv fun D2 h2 z2=>qZ fun B b1 b2=>⟨_,rfl,.inr (.inl ⟨a,_,0,_,rfl,rfl,hq,ql (j:=0) rfl,rfl,_,rfl,bN (dne ∅) (b2 _ (h2 _ _ ?_))⟩)⟩;refine qv fun D3 h3 z3=>qZ fun B b1 b2=>⟨_,rfl,.inr (.inl ⟨a,_,0,_,rfl,rfl,hq,ql (j:=0) rfl,rfl,_,rfl,bN (dne ∅) (b2 _ (h3 _ _ ?_))⟩)⟩;refine qv fun D4 h4 z4=>qZ fun B b1 b2=>⟨_,rfl,.inr (.inl ⟨a,_,0,_,rfl,rfl,hq,ql (j:=0) rfl,rfl,_,rfl,bP (deq rfl) (b1 _ ?_)⟩)⟩;refine ⟨_,rfl,.inr (.inl ⟨a,_,1,_,rfl,rfl,hq,ql (j:=1) rfl,(O0:2≤Af),fun p1 hp1=>?_⟩)⟩;refine qp (qy.refl H) hp1 fun H1 g1 s1 n1 e1=>?_;refine ⟨_,rfl,.inr (.inl ⟨a,_,2,_,rfl,rfl,g1.sqT hq,ql (j:=2) rfl,y2,t,rfl,r2.same g1,kt,fun H2 p2 g2 n2 e2=>?_⟩)⟩;refine .inr (.inr ⟨p1,p2,_,_,rfl,rfl,g2 _ _ e1,e2,line ?_,fun p3 hp3=>?_⟩)
  ·simp only [Ak,Ah,Aj,Ba];omega
  refine qp (g1.trans g2) hp3 fun H3 g3 s3 n3 e3=>?_;refine ⟨_,rfl,.inr (.inl ⟨a,_,3,_,rfl,rfl,g3.sqT hq,ql (j:=3) rfl,y3,u,rfl,r3.same g3,ku,fun H4 p4 g4 n4 e4=>?_⟩)⟩;refine .inr (.inr ⟨p3,p4,_,_,rfl,rfl,g4 _ _ e3,e4,line ?_,fun p5 hp5=>?_⟩)
  ·simp only [Ak,Ah,Aj,Ba];omega
  refine qp (g3.trans g4) hp5 fun H5 g5 s5 n5 e5=>?_;refine ⟨(O0:1≤Af),fun p6 hp6=>?_⟩;refine qp g5 hp6 fun H6 g6 s6 n6 e6=>?_;refine .inr (.inr ⟨p5,p6,_,_,rfl,rfl,s6 _ _ e5,e6,line ?_,fun p7 hp7=>?_⟩)
  ·simp only [Ak,Ah,Aj,Ba];omega
  refine qp g6 hp7 fun H7 g7 s7 n7 e7=>z4 _ _ (q _ p7 g7 n7 ?_);rw [e7];simp
 | @fn h ps as hh nm ra=>
  have hh3:h∈(["fun","loop","main"]:List Str):=by
   have z:∀ h∈(["fun","loop"]:List Str),h∈(["fun","loop","main"]:List Str):=∅;exact z h hh
  have nh:∀ h∈(["fun","loop"]:List Str),h≠"number"∧h≠"name"∧h≠"two":=∅;obtain ⟨m1,m2,m3⟩:=nh h hh;rw [Sho.wP_fn hh3] at tot q;have hk2:=hk;refine hk.tp3 fun a y1 y2 ex hq r1 r2=>?_;subst ex;refine qv fun D2 h2 z2=>qZ fun B b1 b2=>⟨_,rfl,.inr (.inl ⟨a,_,0,_,rfl,rfl,hq,ql (j:=0) rfl,rfl,_,rfl,bN (dne m1) (b2 _ (h2 _ _ ?_))⟩)⟩;refine qv fun D3 h3 z3=>qZ fun B b1 b2=>⟨_,rfl,.inr (.inl ⟨a,_,0,_,rfl,rfl,hq,ql (j:=0) rfl,rfl,_,rfl,bN (dne m2) (b2 _ (h3 _ _ ?_))⟩)⟩;refine qv fun D4 h4 z4=>qZ fun B b1 b2=>⟨_,rfl,.inr (.inl ⟨a,_,0,_,rfl,rfl,hq,ql (j:=0) rfl,rfl,_,rfl,bN (dne m3) (b2 _ (h4 _ _ ?_))⟩)⟩;refine qv fun D5 h5 z5=>qZ fun B b1 b2=>⟨_,rfl,.inr (.inl ⟨a,_,0,_,rfl,rfl,hq,ql (j:=0) rfl,(O0:2≤Af),fun q2 hq2=>⟨q2,_,rfl,.inr (SqT.of upd_same),rfl,rfl,_,rfl,?_⟩⟩)⟩;rw [if_neg Ai];refine qp (qy.refl H) hq2 fun H0 g0 _ _ _=>?_;refine bP ((jn h ["fun","loop"]).trans (Cn.mpr hh)) (b1 _ ⟨_,rfl,_,h,ps,as,rfl,hk2.same g0,nm,ra,⋯,fun H1 p1 g1 n1 e1=>z5 _ _ (q _ p1 (g0.trans g1) (jF g0 n1) e1)⟩)
 | @call t as kt kas hla=>
  rw [Sho.wP_call] at tot q;simp only [Ak,Aj,Ba] at tot;refine hk.tp3 fun a y1 y2 ex hq r1 r2=>?_;subst ex;refine r2.tpl fun b ys ey hb rb=>?_;subst ey;refine qv fun D2 h2 z2=>qZ fun B b1 b2=>⟨_,rfl,.inr (.inl ⟨a,_,0,_,rfl,rfl,hq,ql (j:=0) rfl,rfl,_,rfl,bN (dne ∅) (b2 _ (h2 _ _ ?_))⟩)⟩;refine qv fun D3 h3 z3=>qZ fun B b1 b2=>⟨_,rfl,.inr (.inl ⟨a,_,0,_,rfl,rfl,hq,ql (j:=0) rfl,rfl,_,rfl,bN (dne ∅) (b2 _ (h3 _ _ ?_))⟩)⟩;refine qv fun D4 h4 z4=>qZ fun B b1 b2=>⟨_,rfl,.inr (.inl ⟨a,_,0,_,rfl,rfl,hq,ql (j:=0) rfl,rfl,_,rfl,bN (dne ∅) (b2 _ (h4 _ _ ?_))⟩)⟩;refine qv fun D5 h5 z5=>qZ fun B b1 b2=>⟨_,rfl,.inr (.inl ⟨a,_,0,_,rfl,rfl,hq,ql (j:=0) rfl,(O0:2≤Af),fun q2 hq2=>⟨q2,_,rfl,.inr (SqT.of upd_same),rfl,rfl,_,rfl,?_⟩⟩)⟩;rw [if_neg Ai];refine qp (qy.refl H) hq2 fun H0 g0 _ _ _=>?_;refine bN ∅ (b2 _ (h5 _ _ ?_));refine qv fun D6 h6 z6=>⟨_,rfl,.inr (.inl ⟨a,_,0,_,rfl,rfl,g0.sqT hq,ql (j:=0) rfl,(O0:2≤Af),fun p1 hp1=>?_⟩)⟩;refine qp g0 hp1 fun H1 g1 s1 n1 e1=>?_;refine ⟨_,rfl,.inr (.inl ⟨a,_,1,_,rfl,rfl,g1.sqT hq,ql (j:=1) rfl,y1,t,rfl,r1.same g1,kt,fun H2 p2 g2 n2 e2=>?_⟩)⟩;refine .inr (.inr ⟨p1,p2,_,_,rfl,rfl,g2 _ _ e1,e2,line ?_,fun p3 hp3=>?_⟩)
  ·simp only [Ak,Ah,Aj,Ba];omega
  refine qp (g1.trans g2) hp3 fun H3 g3 s3 n3 e3=>?_;refine h6 _ _ (qv fun D7 h7 z7=>?_);have fin:∀ H' p o,qy H H'→H p=none→H' p=some (.lst ((("(":Str)::"call"::(Sho.wP n t++((as:List Aa).map (Sho.wP n)).flatten)).map V.str))→D7.nx [some (.ref a),some (.ref p),o] H':=fun H' p o g n e=>h7 _ _ ?_
  ·refine ⟨_,rfl,.inr (.inl ⟨a,_,0,_,rfl,rfl,g3.sqT hq,ql (j:=0) rfl,rfl,_,rfl,?_⟩)⟩;refine zp (deq rfl) ⟨_,rfl,.inr (.inl ⟨a,_,2,_,rfl,rfl,g3.sqT hq,ql (j:=2) rfl,b,_,rfl,.inr (g3.sqT hb),fun p4 hp4=>?_⟩)⟩;refine qp g3 hp4 fun H4 g4 s4 n4 e4=>?_;exact .inl ⟨p4,rfl,⟨_,SqL.of e4⟩,late a "call" y1 _ t ys as D7 hq r1 kt rb kas ⋯ H4 p3 g4 n3 (s4 _ _ e3) p4 (SqL.of e4) fin⟩
  refine ⟨_,rfl,(O0:1≤Af),fun p5 hp5=>?_⟩;refine qp g hp5 fun H5 g5 s5 n5 e5=>?_;refine .inr (.inr ⟨p,p5,_,_,rfl,rfl,s5 _ _ e,e5,line ?_,fun p6 hp6=>?_⟩)
  ·simp only [Ak,Ah,Aj,Ba,As,Cd,Bp,List.flatten_nil,Bi];omega
  refine qp g5 hp6 fun H6 g6 s6 n6 e6=>q _ p6 g6 n6 ?_;rw [e6];simp
 | @step t u kt ku=>
  rw [Sho.wP_step] at tot q;simp only [Ak,Aj,Ba] at tot;refine hk.tp3 fun a y1 y2 ex hq r1 r2=>?_;subst ex;refine qv fun D2 h2 z2=>qZ fun B b1 b2=>⟨_,rfl,.inr (.inl ⟨a,_,0,_,rfl,rfl,hq,ql (j:=0) rfl,rfl,_,rfl,bN (dne ∅) (b2 _ (h2 _ _ ?_))⟩)⟩;refine qv fun D3 h3 z3=>qZ fun B b1 b2=>⟨_,rfl,.inr (.inl ⟨a,_,0,_,rfl,rfl,hq,ql (j:=0) rfl,rfl,_,rfl,bN (dne ∅) (b2 _ (h3 _ _ ?_))⟩)⟩;refine qv fun D4 h4 z4=>qZ fun B b1 b2=>⟨_,rfl,.inr (.inl ⟨a,_,0,_,rfl,rfl,hq,ql (j:=0) rfl,rfl,_,rfl,bN (dne ∅) (b2 _ (h4 _ _ ?_))⟩)⟩;refine qv fun D5 h5 z5=>qZ fun B b1 b2=>⟨_,rfl,.inr (.inl ⟨a,_,0,_,rfl,rfl,hq,ql (j:=0) rfl,(O0:2≤Af),fun q2 hq2=>⟨q2,_,rfl,.inr (SqT.of upd_same),rfl,rfl,_,rfl,?_⟩⟩)⟩;rw [if_neg Ai];refine qp (qy.refl H) hq2 fun H0 g0 _ _ _=>?_;refine bN ∅ (b2 _ (h5 _ _ ?_));refine qv fun D6 h6 z6=>⟨_,rfl,.inr (.inl ⟨a,_,0,_,rfl,rfl,g0.sqT hq,ql (j:=0) rfl,(O0:2≤Af),fun p1 hp1=>?_⟩)⟩;refine qp g0 hp1 fun H1 g1 s1 n1 e1=>?_;refine ⟨_,rfl,.inr (.inl ⟨a,_,1,_,rfl,rfl,g1.sqT hq,ql (j:=1) rfl,y1,t,rfl,r1.same g1,kt,fun H2 p2 g2 n2 e2=>?_⟩)⟩;refine .inr (.inr ⟨p1,p2,_,_,rfl,rfl,g2 _ _ e1,e2,line ?_,fun p3 hp3=>?_⟩)
  ·simp only [Ak,Ah,Aj,Ba];omega
  refine qp (g1.trans g2) hp3 fun H3 g3 s3 n3 e3=>?_;refine h6 _ _ (qv fun D7 h7 z7=>?_);have fin:∀ H' p o,qy H H'→H p=none→H' p=some (.lst ((("(":Str)::"step"::(Sho.wP n t++(([u]:List Aa).map (Sho.wP n)).flatten)).map V.str))→D7.nx [some (.ref a),some (.ref p),o] H':=fun H' p o g n e=>h7 _ _ ?_
  ·refine ⟨_,rfl,.inr (.inl ⟨a,_,0,_,rfl,rfl,g3.sqT hq,ql (j:=0) rfl,rfl,_,rfl,?_⟩)⟩;refine zh (dne ∅) ⟨_,rfl,.inr (.inl ⟨a,_,2,_,rfl,rfl,g3.sqT hq,ql (j:=2) rfl,(O0:1≤Af),fun p4 hp4=>?_⟩)⟩;refine qp g3 hp4 fun H4 g4 s4 n4 e4=>?_;exact .inl ⟨p4,rfl,⟨_,SqL.of e4⟩,late a "step" y1 y2 t [y2] [u] D7 hq r1 kt (.cons r2 .nil) (fun x hx=>by cases A0.mp hx;exact ku) (by simp only [As,Cd,Bp,List.flatten_nil,Bi];omega) H4 p3 g4 n3 (s4 _ _ e3) p4 (SqL.of e4) fin⟩
  refine ⟨_,rfl,(O0:1≤Af),fun p5 hp5=>?_⟩;refine qp g hp5 fun H5 g5 s5 n5 e5=>?_;refine .inr (.inr ⟨p,p5,_,_,rfl,rfl,s5 _ _ e,e5,line ?_,fun p6 hp6=>?_⟩)
  ·simp only [Ak,Ah,Aj,Ba,As,Cd,Bp,List.flatten_nil,Bi];omega
  refine qp g5 hp6 fun H6 g6 s6 n6 e6=>q _ p6 g6 n6 ?_;rw [e6];simp
theorem Q4 {fB fF fT fW:Ac} {dB dF dT dW:FuncData} (FB:Fun K "_law_bodies" "_law_bodies" Jq fB dB) (FF:Fun K "_law_function_words" "_law_function_words" zx fF dF) (FT:Fun K "_law_term_words" "_law_term_words" jr fT dT) (FW:Fun K "_law_words" "_law_words" JG fW dW)
  (kB:Known K mg "_law_bodies" ["_law_body_here"] fB dB) (kF:Known K mg "_law_function_words" ["_law_part"] fF dF) (kT:Known K mg "_law_term_words" ["_law_term_here"] fT dT) (kW:Known K mg "_law_words" ["_law_one"] fW dW) (c:Cs K mg ad):
  ∀ n:Nat,Def P w K mg base (4*n+3) "_law_term_words" ["_law_term_here"] (spLP K n "term")∧Def P w K mg base (4*n+5) "_law_bodies" ["_law_body_here"] (spLB K n)∧Def P w K mg base (4*n+6) "_law_function_words" ["_law_part"] (spLF K n)
 | 0=>by
  have none0:∀ u vs H Q E,¬ spLP K 0 u vs H Q E:=fun u vs H Q E ⟨x,d,_,_,⟨_,_,τ,p,_,hτ⟩,_⟩=>p.el fun _ _ _ et _ _=>⋯;have b:=kB.out (Vi (P:=P) (w:=w) (base:=base) FB c 0 (kW.out (W9 (none0 "statement"))));exact ⟨kT.out (W9 (none0 "term")),b,kF.out (jU FF c 0 b)⟩
 | n+1=>by
  obtain ⟨t,b,g⟩:=Q4 FB FF FT FW kB kF kT kW c n;have w:=kW.out (Xs FW c n t b);have b2:=kB.out (Vi FB c (n+1) w);exact ⟨kT.out (VP FT c n t g),b2,kF.out (jU FF c (n+1) b2)⟩
end
def JD (a:Ac) (k:Int):List (Key×V):=[(Sum.inr "cells",.ref a),(Sum.inr "at",.int k)]
section
variable (a:Ac) (k:Int)
theorem qbo:vq (JD a k) (Sum.inr "cells")=some (.ref a):=jI rfl
theorem Qd:vq (JD a k) (Sum.inr "at")=some (.int k):=(jk qb1).trans (jI rfl)
theorem qgd (j:Int):jy (JD a k) (Sum.inr "at") (.int j)=JD a j:=by
 unfold jy;rw [if_pos (by rw [JU,Qd];rfl)]
 unfold JD;simp only [As,Cd];rw [if_neg qb1,if_pos trivial]
theorem qge:vO [] ([(Sum.inr "cells",.ref a),(Sum.inr "at",.int k)]:List (Key×V))=JD a k:=by
 have e1:jy ([]:List (Key×V)) (Sum.inr "cells") (V.ref a)=[]++[(Sum.inr ("cells":Str),V.ref a)]:=Zo _ rfl;have e2:jy ([]++[(Sum.inr ("cells":Str),V.ref a)]:List (Key×V)) (Sum.inr "at") (V.int k)=([]++[(Sum.inr ("cells":Str),V.ref a)])++[(Sum.inr ("at":Str),V.int k)]:=Zo _ ((jk qb1).trans rfl);show jy (jy ([]:List (Key×V)) (Sum.inr "cells") (V.ref a)) (Sum.inr "at") (V.int k)=JD a k;rw [e1,e2];rfl
end
section
variable {P:Program} {w:World} {K:Frag} {mg:Str→Option Ab} {base:Heap} {f:Ac} {fd:FuncData} {ad:Ad}
inductive spNext2 (K:Frag) (vs:List V) (H:Hp) (Q:VK) (E':XK):Prop
 | mk:∀ (d a:Ac) (ns:List Int) (k:Int),(vs=[.ref d])→(H d=some (.dK (JD a k)))→(SqL K H a (ns.map V.int))→(0≤k)→(k≤1000000)→(∀ (n:Int) (H':Hp),0≤n→H'=upd H d (.dK (JD a (k+1)))→Q (.int n) H')→spNext2 K vs H Q E'
def XY:TS:=zS (tOp (rI qhy fun i j=>V.int (i / j)) (tOp (rI (fun x j=>0<j) fun i j=>V.int (i % j)) (tOp zk (tOp (rI X5 fun i j=>V.int (i*j)) (qk 2) (tC (V.int 48271))) (tOp (rI X5 fun i j=>V.int (i*j)) (tOp (rI X5 fun i j=>V.int (i*j)) (qk 1) (qk 1)) (tC (V.int 69621)))) (tC (V.int 2147483647))) (tC (V.int 8)))
def XX (K:Frag):TS:=qO (zF (qI (spCell K) [] E0 (qe (Ys (qk 0) (tC (V.str "cells"))) (qe (tOp (rI (fun x j=>0<j) fun i j=>V.int (i % j)) (qk 1) (tCB (fun xs H Q=>∃ i j,xs=[V.int i,V.int j]∧Q (V.int (if j>i then j else i)) H) (qe (tC (V.int 1)) (qe (tCB (fun xs H Q=>∃ x n,xs=[x]∧wz K x H n∧Q (V.int ↑n) H) (qe (Ys (qk 0) (tC (V.str "cells"))) qx)) qx)))) qx))) (qE 2)) XY
def XW (K:Frag):TS:=qO (zF (Ys (qk 0) (tC (V.str "at"))) (qE 1)) (XX K)
theorem Xt (F:Fun K "_law_next" "_law_next" va f fd) (c:Cs K mg ad) (d_law_cell_at:Def P w K mg base 1 "_law_cell_at" ["_law_script","_law_k"] (spCell K)):FnOk P w K mg base CX0 2 f fd ["_law_state"] (spNext2 K):=by
 refine F.ok jE (fun vs H Q E h=>?_) (fun cdv A outer s H vs Q E hr h=>?_)
 ·obtain ⟨d,a,ns,k,rfl,_⟩:=h;rfl
 obtain ⟨d,a,ns,k,rfl,hd,hS,hk0,hk1,q⟩:=h;have hu:=ZK hr;refine ⟨_,(qc (Wo hu (pv 0) qg (qo qA (zH hu (pv 0) qg (fun _ _=>rfl)) qd) rfl)
   (qc (pst 1 jE.nd (zH hu (pv 0) qg (fun _ _=>rfl)))
   (qc (pst 2 jE.nd (pdf d_law_cell_at (qa (zH hu (pv 0) qg (fun _ _=>rfl)) (qa (qo qP (pv 1) (qz (YV rfl) (by rfl) c.max_ qfr (qa qd (qa (qz (zN (K:=K) rfl) (by rfl) c.len_ ze (qa (zH hu (pv 0) qg (fun _ _=>rfl)) qb)) qb)))) qb))))
   (qf (qr (qo zQ (qo qP (qo qA (qo Ji (pv 2) qd) (qo Ji (qo Ji (pv 1) (pv 1)) qd)) qd) qd)))))),?_⟩
 show qO (qh6 (qk 0) (tC (V.str "at")) (tOp zk (Ys (qk 0) (tC (V.str "at"))) (tC (V.int 1)))) (XW K) _ _ _;clear hu;refine ⟨_,rfl,_,_,rfl,(by rw [← Qd a k];exact jZ.k (k:=Sum.inr "at") hd),.inl ⟨_,_,rfl,rfl,?_⟩⟩
 refine ⟨_,rfl,d,upd H d (.dK (JD a (k+1))),rfl,(by rw [← qgd a k (k+1)];exact ZY.k (k:=Sum.inr "at") hd (Ch (show 2≤1000 from O0) O0)),?_⟩
 have hd':upd H d (.dK (JD a (k+1))) d=some (.dK (JD a (k+1))):=upd_same;have hS':SqL K (upd H d (.dK (JD a (k+1)))) a (ns.map V.int):=(Stay.put hd).sqL hS;have gAt:jZ (upd H d (.dK (JD a (k+1)))) d (.str "at") (some (.int (k+1))):=by rw [← Qd a (k+1)];exact jZ.k (k:=Sum.inr "at") hd'
 have gCe:jZ (upd H d (.dK (JD a (k+1)))) d (.str "cells") (some (.ref a)):=by rw [← qbo a (k+1)];exact jZ.k (k:=Sum.inr "cells") hd'
 have hm:0<(if (((ns.map V.int).length:Nat):Int)>1 then (((ns.map V.int).length:Nat):Int) else 1):=by split <;> omega
 refine ⟨_,rfl,d,_,rfl,gAt,_,rfl,d,_,rfl,gCe,_,rfl,_,rfl,d,_,rfl,gCe,_,_,rfl,.inl ⟨_,hS',rfl⟩,_,_,rfl,_,_,rfl,rfl,hm,a,ns,_,rfl,hS',Be _ ⋯,fun i=>?_⟩;have b1:X5 (k+1) (k+1):= .inl ⟨⋯,⋯⟩;refine ⟨_,rfl,_,_,rfl,rfl,.inr ⟨O0,O0⟩,_,rfl,_,rfl,_,_,rfl,rfl,b1,_,_,rfl,rfl,.inr ⟨O0,O0⟩,.inl ⟨_,_,rfl,rfl,_,_,rfl,rfl,(show (0:Int)<2147483647 from O0),_,_,rfl,rfl,⟨O0,O0⟩,?_⟩⟩;exact q _ _ (Int.ediv_nonneg (Be _ O0) O0) rfl
inductive spTx (K:Frag) (vs:List V) (H:Hp) (Q:VK) (E':XK):Prop
 | mk:∀ p ws,(SqL K H p (ws.map V.str))→(ws.length≤700000)→(Sho.wl ws≤700000)→(((vs=[.ref p,.non]∧∀ H',qy H H'→Q (.str (Sho.tx ws)) H')∨(∃ (d a:Ac) (k:Int) (ns:List Int),vs=[.ref p,.ref d]∧H d=some (.dK (JD a k))∧SqL K H a (ns.map V.int)∧0≤k∧k≤100∧(∀ x∈ws,Sho.WOk x)∧∀ H' T,Stay d H H'→Sho.Mixed ws T→(T.length:Int)≤Sho.wsum ws→Q (.str T) H')))→spTx K vs H Q E'
theorem qbm {ws:List Str} {i:Nat} {y:Str} (h:ws[i]?=some y):(ws.take (i+1)).getLast?=some y:=by
 rw [Bw,h];exact Dw
theorem Y5 (ws:List Str) (i:Nat):Sho.wl (ws.take i)≤Sho.wl ws:=by
 have e:=congrArg Sho.wl (List.take_append_drop i ws);rw [Sho.wl_app] at e;omega
def yP (b1 b2:Str→Bool) (p:Option Str) (x:Str):Bool:=(match p with
 | none=>true
 | some y=>b1 y)||b2 x
theorem WG {σ:St} {H:Hp} {Q:VK} {p:Ac} {ws:List Str} {i:Nat} {x:Str} {r1 r2:R2} {c1 c2:V} {b1 b2:Str→Bool} (h0:σ[0]?=some (some (.ref p))) (h3:σ[3]?=some (some (.int (i:Int)))) (hS:SqL K H p (ws.map V.str)) (ex:ws[i]?=some x)
  (e1:∀ y∈ws,∀ Q:VK,Q (.bl (b1 y)) H→r1 (.str y) c1 H Q) (e2:∀ Q:VK,Q (.bl (b2 x)) H→r2 (.str x) c2 H Q) (q:Q (.bl (yP b1 b2 (ws.take i).getLast? x)) H):
  Z8 (tOp rEq (qk 3) (tC (.int 0))) (Z8 (tOp r1 (tOp (rIx K) (qk 0) (tOp (rI0 fun i j=> .int (i - j)) (qk 3) (tC (.int 1)))) (tC c1)) (tOp r2 (tOp (rIx K) (qk 0) (qk 3)) (tC c2))) σ H Q:=by
 have hxi:(ws.map V.str)[i]?=some (.str x):=by rw [Bq,ex];rfl
 have hi:i<ws.length:=(Cf.mp ex).1;refine ⟨_,h3,rfl,_,rfl,?_⟩;cases i with
 | zero=>exact zp (An rfl) q
 | succ j=>
  obtain ⟨y,ey⟩:=vj (l:=ws) (i:=j) ⋯;have hyj:(ws.map V.str)[j]?=some (.str y):=by rw [Bq,ey];rfl
  have ej:(((j+1:Nat):Nat):Int) - 1=((j:Nat):Int):=⋯;rw [qbm ey] at q;refine zh (Ar fun z=>by have:=V.int.inj z;omega) ⟨_,h0,_,h3,_,_,rfl,rfl,.inl ⟨p,_,_,_,rfl,rfl,hS,?_,e1 y (Bx ey) _ ⟨_,rfl,?_⟩⟩⟩
  ·rw [ej];exact ql hyj
  ·unfold yP at q
   by_cases c:b1 y=true
   ·rw [show (match some y with | none=>true | some y=>b1 y)=b1 y from rfl,c,Bool.true_or] at q
    exact zp c q
   ·have c':=Bs.mpr c;rw [show (match some y with | none=>true | some y=>b1 y)=b1 y from rfl,c',Ey] at q
    exact zh c' ⟨_,h0,_,h3,.inl ⟨p,_,_,_,rfl,rfl,hS,ql hxi,e2 _ q⟩⟩
theorem Wm {y a:Str} {H:Hp} {Q:VK} (q:Q (.bl (y==a)) H):rEq (.str y) (.str a) H Q:=by
 refine ⟨rfl,?_⟩;have e:decide (V.str y=V.str a)=(y==a):=by
  rw [B5,Bk,Az];exact ⟨V.str.inj,congrArg V.str⟩
 rw [e];exact q
theorem sep_tight (p:Option Str) (x:Str):Sho.sepT p x=if yP (· =="(") (· ==")") p x=true then "" else " ":=by
 unfold Sho.sepT;have e:((p=none∨p=some ("(":Str))∨x=")")↔yP (· =="(") (· ==")") p x=true:=by
  unfold yP;cases p with
  | none=>simp
  | some y=>
   rw [Bt];show ((some y=none∨some y=some ("(":Str))∨x=")")↔((y=="(")=true∨(x==")")=true);rw [Az,Az];simp
 by_cases c:yP (· =="(") (· ==")") p x=true
 ·rw [if_pos (e.mpr c),if_pos c]
 ·rw [if_neg fun z=>c (e.mp z),if_neg c]
theorem qdp {b:Bool} {p:Option Str} {x:Str} (eb:yP Sho.isB Sho.isB p x=b) {z:Int} (h0:0≤z) (h1:z<6):∃ s:Str,atI ([.str " ",.str "\n",.str "  ",.str " \n ",.str (if b=true then "" else " "),.str (if b=true then "" else "\n")]:List V) z=some (.str s)∧Sho.SepOk p x s∧s.length≤3:=by
 have tt:b=true→Sho.SepOk p x "":=fun hb=>by
  rw [hb] at eb;refine .tight ?_;unfold yP at eb;rw [Bt] at eb;rcases eb with eb | eb
  ·cases p with
   | none=>exact .inl (.inl (.inl rfl))
   | some y=>
    rcases Sho.isB_iff.mp eb with rfl | rfl
    ·exact .inl (.inl (.inr rfl))
    ·exact .inl (.inr rfl)
  ·exact .inr eb
 obtain ⟨j,rfl⟩:=Int.eq_ofNat_of_zero_le h0;have hj:j<6:=⋯
 match j,hj with
 | 0,_=>exact ⟨_,ql (j:=0) rfl,.blank ∅,∅⟩
 | 1,_=>exact ⟨_,ql (j:=1) rfl,.blank ∅,∅⟩
 | 2,_=>exact ⟨_,ql (j:=2) rfl,.blank ∅,∅⟩
 | 3,_=>exact ⟨_,ql (j:=3) rfl,.blank ∅,∅⟩
 | 4,_=>
  cases b with
  | true=>exact ⟨_,ql (j:=4) rfl,tt rfl,∅⟩
  | false=>exact ⟨_,ql (j:=4) rfl,.blank ∅,∅⟩
 | 5,_=>
  cases b with
  | true=>exact ⟨_,ql (j:=5) rfl,tt rfl,∅⟩
  | false=>exact ⟨_,ql (j:=5) rfl,.blank ∅,∅⟩
theorem qa9 {ws:List Str} {i:Nat} {x:Str} (ex:ws[i]?=some x):Sho.wsum (ws.take (i+1))=Sho.wsum (ws.take i)+((x.length:Int)+3):=by
 rw [Bw,ex];unfold Sho.wsum;rw [A1,Dr];simp
theorem Q2:∀ (ws:List Str),Sho.wsum ws≤4*(Sho.wl ws:Int)
 | []=>Eb _
 | x::r=>by
  have ih:=Q2 r;have e:Sho.wsum (x::r)=(x.length:Int)+3+Sho.wsum r:=by
   unfold Sho.wsum;rw [As,B9]
  rw [e,Sho.wl_cons]
  push_cast
  omega
def XV (K:Frag):TS:=zF (tOp zk (tOp zk (qk 2) (tOp (rIx K) (qk 5) (tOp (rI (fun x j=>0<j) fun i j=>V.int (i % j)) (qI (spNext2 K) [] E0 (qe (qk 1) qx)) (tC (V.int 6))))) (tOp (rIx K) (qk 0) (qk 3))) (qE 2)
def XU (K:Frag):TS:=qO (zF (jz (qe (tC (V.str " ")) (qe (tC (V.str "\n")) (qe (tC (V.str "  ")) (qe (tC (V.str " \n ")) (qe (tOp (rIx K) (jz (qe (tC (V.str "")) (qe (tC (V.str " ")) qx))) (tCB (fun xs H Q=>(∃ i,xs=[V.int i]∧Q (V.int i) H)∨∃ k,xs=[V.bl k]∧Q (V.int (if k=true then 1 else 0)) H) (qe (qc7 (qk 4)) qx))) (qe (tOp (rIx K) (jz (qe (tC (V.str "")) (qe (tC (V.str "\n")) qx))) (tCB (fun xs H Q=>(∃ i,xs=[V.int i]∧Q (V.int i) H)∨∃ k,xs=[V.bl k]∧Q (V.int (if k=true then 1 else 0)) H) (qe (qc7 (qk 4)) qx))) qx))))))) (qE 5)) (XV K)
def XT (K:Frag):TS:=zF (tOp zk (tOp zk (qk 2) (tOp (rIx K) (jz (qe (tC (V.str " ")) (qe (tC (V.str "")) qx))) (tCB (fun xs H Q=>(∃ i,xs=[V.int i]∧Q (V.int i) H)∨∃ k,xs=[V.bl k]∧Q (V.int (if k=true then 1 else 0)) H) (qe (qk 4) qx)))) (tOp (rIx K) (qk 0) (qk 3))) (qE 2)
def XS (K:Frag):TS:=qO (zF (Z8 (tOp rEq (qk 3) (tC (V.int 0))) (Z8 (tOp (fun x y H Q=>∃ i j,x=V.str i∧y=V.str j∧Q (V.bl ! (Builtin.Str.occurrences j i 0 j.length 1).isEmpty) H) (tOp (rIx K) (qk 0) (tOp (rI0 fun i j=>V.int (i - j)) (qk 3) (tC (V.int 1)))) (tC (V.str "()"))) (tOp (fun x y H Q=>∃ i j,x=V.str i∧y=V.str j∧Q (V.bl ! (Builtin.Str.occurrences j i 0 j.length 1).isEmpty) H) (tOp (rIx K) (qk 0) (qk 3)) (tC (V.str "()"))))) (qE 4)) (XU K)
def XR (K:Frag):TS:=zO (qW (tOp (fun x y H Q=>y=V.non∧Q (V.bl (decide (x=V.non))) H) (qk 1) (tC V.non))) (XT K) (XS K)
def XQ (K:Frag):TS:=qO (zF (Z8 (tOp rEq (qk 3) (tC (V.int 0))) (Z8 (tOp rEq (tOp (rIx K) (qk 0) (tOp (rI0 fun i j=>V.int (i - j)) (qk 3) (tC (V.int 1)))) (tC (V.str "("))) (tOp rEq (tOp (rIx K) (qk 0) (qk 3)) (tC (V.str ")"))))) (qE 4)) (XR K)
def XO (K:Frag):TS:=qO (Qa (qau (qe (tCB (fun xs H Q=>∃ x n,xs=[x]∧wz K x H n∧Q (V.int ↑n) H) (qe (qk 0) qx)) qx)) (qE 3) (XQ K)) (zS (qk 2))
theorem Zv (F:Fun K "_law_text" "_law_text" Vn f fd) (c:Cs K mg ad) (d_law_next:Def P w K mg base 2 "_law_next" ["_law_state"] (spNext2 K)):FnOk P w K mg base CX0 3 f fd ["_law_words_here","_law_state"] (spTx K):=by
 refine F.ok (k:=2) zL (fun vs H Q E h=>?_) (fun cdv A outer s H vs Q E hr h=>?_)
 ·obtain ⟨p,ws,_,_,_,⟨rfl,_⟩ | ⟨d,a,k,ns,rfl,_⟩⟩:=h <;> rfl
 obtain ⟨p,ws,hS,hl,hw,h⟩:=h;refine ⟨_,(qc (pst 2 zL.nd qg)
   (qc (JO C3 rfl (ja rfl c.range_ (qa (qz (zN (K:=K) rfl) (by rfl) c.len_ ze (qa (pv 0) qb)) qb)) (pgn 3 zL.nd) (qc (pst 4 zL.nd (WZ (zf qT (pv 3) qd (qw _)) (WZ (zf qT (pix K (pv 0) (qo zd (pv 3) qd)) qg (qw _)) (JA (zf qT (pix K (pv 0) (pv 3)) qg (qw _))))))
   (qf (qD (qq qi8 (pv 1) W0 (qw _)) (qf (pst 2 zL.nd (qo qA (qo qA (pv 2) (pix K (qJ (qa qg (qa qg qb))) (qM v9 (by rfl) c.int_ ww (qa (pv 4) qb)))) (pix K (pv 0) (pv 3))))) (qc (pst 4 zL.nd (WZ (zf qT (pv 3) qd (qw _)) (WZ (zf Yy (pix K (pv 0) (qo zd (pv 3) qd)) qg rfl) (JA (zf Yy (pix K (pv 0) (pv 3)) qg rfl)))))
   (qc (pst 5 zL.nd (qJ (qa qg (qa qg (qa qg (qa qg (qa (pix K (qJ (qa qg (qa qg qb))) (qM v9 (by rfl) c.int_ ww (qa (Qr (pv 4)) qb))) (qa (pix K (qJ (qa qg (qa qg qb))) (qM v9 (by rfl) c.int_ ww (qa (Qr (pv 4)) qb))) qb))))))))
   (qf (pst 2 zL.nd (qo qA (qo qA (pv 2) (pix K (pv 5) (qo qP (pdf d_law_next (qa (pv 1) qb)) qd))) (pix K (pv 0) (pv 3)))))))))))
   (qf (qr (pv 2))))),?_⟩
 show qO (zF (tC (V.str "")) (qE 2)) (XO K) _ _ _;rcases h with ⟨rfl,q⟩ | ⟨d,a,k,ns,rfl,hd,ha,hk0,hk1,wok,q⟩
 ·refine ⟨_,rfl,_,_,rfl,.inl ⟨_,hS,rfl⟩,_,rfl,⋯,by rw [Ah];omega,?_⟩
  rw [Ah];refine wq (n:=ws.length) (fun i σ H'=>∃ o3 o4 o5,σ=[some (.ref p),some .non,some (.str (Sho.tx (ws.take i))),o3,o4,o5]∧qy H H') ?_ (fun i σ H2 hi h=>?_) (fun σ H2 h=>?_)
  ·exact ⟨none,none,none,rfl,qy.refl _⟩
  ·obtain ⟨o3,o4,o5,rfl,g2⟩:=h;obtain ⟨x,ex⟩:=vj (l:=ws) (i:=i) hi;have hxi:(ws.map V.str)[i]?=some (.str x):=by rw [Bq,ex];rfl
   have hS2:=g2.seq hS;have e0:(0:Int)+(i:Int)=(i:Int):=⋯;refine qv fun D2 h2 _=>?_;rw [e0];refine WG (b1:=(· =="(")) (b2:=(· ==")")) rfl rfl hS2 ex (fun y _ Q h=>Wm h) (fun Q h=>Wm h) (h2 _ _ ?_);refine qZ fun B b1 b2=>⟨_,rfl,rfl,_,rfl,bP (An rfl) (b1 _ ?_)⟩;have tl:=Sho.tx_le (Aw (Y5 ws i) hw);have tl2:=Sho.tx_le (Aw (Y5 ws (i+1)) hw);have es:Sho.tx (ws.take (i+1))=Sho.tx (ws.take i)++Sho.sepT (ws.take i).getLast? x++x:=by
    rw [Bw,ex];exact Sho.tx_snoc _ _
   rw [es,Sho.len_app,Sho.len_app] at tl2;generalize eb:yP (· =="(") (· ==")") (ws.take i).getLast? x=b;have esp:Sho.sepT (ws.take i).getLast? x=if b=true then "" else " ":=by rw [sep_tight,eb]
   refine ⟨_,rfl,(O0:2≤Af),fun pl hpl=>?_⟩;refine qp g2 hpl fun H3 g3 s3 n3 e3=>?_;have at3:atI ([.str " ",.str ""]:List V) (if b=true then 1 else 0)=some (.str (Sho.sepT (ws.take i).getLast? x)):=by
    rw [esp];cases b
    ·exact ql (j:=0) rfl
    ·exact ql (j:=1) rfl
   refine ⟨_,rfl,.inr ⟨b,rfl,.inl ⟨pl,_,_,_,rfl,rfl,SqL.of e3,at3,.inr (.inl ⟨_,_,rfl,rfl,line ⋯,?_⟩)⟩⟩⟩;refine ⟨_,rfl,_,rfl,.inl ⟨p,_,_,_,rfl,rfl,s3.seq hS2,ql hxi,.inr (.inl ⟨_,_,rfl,rfl,line (by rw [Sho.len_app];omega),?_⟩)⟩⟩
   rw [← es];exact ⟨_,_,_,rfl,g3⟩
  ·obtain ⟨o3,o4,o5,rfl,g2⟩:=h;rw [Cb];exact ⟨_,rfl,q H2 g2⟩
 ·have hpd:=hd;refine ⟨_,rfl,_,_,rfl,.inl ⟨_,hS,rfl⟩,_,rfl,⋯,by rw [Ah];omega,?_⟩
  rw [Ah];refine wq (n:=ws.length) (fun i σ H'=>∃ T o3 o4 o5,σ=[some (.ref p),some (.ref d),some (.str T),o3,o4,o5]∧Stay d H H'∧H' d=some (.dK (JD a (k+i)))∧Sho.Mixed (ws.take i) T∧(T.length:Int)≤Sho.wsum (ws.take i)) ?_ (fun i σ H2 hi h=>?_) (fun σ H2 h=>?_)
  ·refine ⟨_,none,none,none,rfl,Stay.of hd (qy.refl _),?_,.nil,Eb _⟩;rw [hd];simp
  ·obtain ⟨T,o3,o4,o5,rfl,g2,hd2,mx,hT⟩:=h;obtain ⟨x,ex⟩:=vj (l:=ws) (i:=i) hi;have hxi:(ws.map V.str)[i]?=some (.str x):=by rw [Bq,ex];rfl
   have hS2:=g2.sqL hS;have e0:(0:Int)+(i:Int)=(i:Int):=⋯;have wx:=wok x (Bx ex);refine qv fun D2 h2 _=>?_;rw [e0];refine WG (b1:=(· =="(")) (b2:=(· ==")")) rfl rfl hS2 ex (fun y _ Q h=>Wm h) (fun Q h=>Wm h) (h2 _ _ ?_);refine qZ fun B b1 b2=>⟨_,rfl,rfl,_,rfl,bN (Ar (by intro z;cases z)) (b2 _ ?_)⟩
   refine qv fun D3 h3 _=>WG (b1:=Sho.isB) (b2:=Sho.isB) rfl rfl hS2 ex (fun y hy Q h=>⟨_,_,rfl,rfl,by rw [Sho.in_par (wok y hy)];exact h⟩) (fun Q h=>⟨_,_,rfl,rfl,by rw [Sho.in_par wx];exact h⟩) (h3 _ _ ?_)
   generalize eb:yP Sho.isB Sho.isB (ws.take i).getLast? x=b;have pick:∀ u v:Str,atI ([.str u,.str v]:List V) (if (!b)=true then 1 else 0)=some (.str (if b=true then u else v)):=fun u v=>by
    cases b
    ·exact ql (j:=1) rfl
    ·exact ql (j:=0) rfl
   refine qv fun D4 h4 _=>⟨(O0:2≤Af),fun p1 hp1=>?_⟩;refine qp (qy.refl H2) hp1 fun H3 g3 s3 n3 e3=>?_;refine ⟨_,rfl,b,rfl,.inr ⟨!b,rfl,.inl ⟨p1,_,_,_,rfl,rfl,SqL.of e3,pick _ _,(O0:2≤Af),fun p2 hp2=>?_⟩⟩⟩;refine qp g3 hp2 fun H4 g4 s4 n4 e4=>?_;refine ⟨_,rfl,b,rfl,.inr ⟨!b,rfl,.inl ⟨p2,_,_,_,rfl,rfl,SqL.of e4,pick _ _,(O0:6≤Af),fun p3 hp3=>?_⟩⟩⟩;refine qp g4 hp3 fun H5 g5 s5 n5 e5=>h4 _ _ ?_;have g6:=g2.then g5;have hd5:=g5 _ _ hd2;refine ⟨_,rfl,_,rfl,_,rfl,d,a,ns,_,rfl,hd5,g6.sqL ha,⋯,⋯,fun n H6 hn eH=>?_⟩;have g7:Stay d H H6:=by
    rw [eH];exact g6.trans (Stay.put hd5)
   have hd6:H6 d=some (.dK (JD a (k+((i+1:Nat):Int)))):=by
    rw [eH,upd_same];have e:k+(i:Int)+1=k+((i+1:Nat):Int):=⋯;rw [e]
   have e6:H6 p3=some (.lst [.str " ",.str "\n",.str "  ",.str " \n ",.str (if b=true then "" else " "),.str (if b=true then "" else "\n")]):=by
    rw [eH,qu (ya e5 hd5 (by intro z;cases z))]
    exact e5
   obtain ⟨sp,ha6,hsp,hsl⟩:=qdp eb (z:=n % 6) (Be _ O0) (A9 _ O0);have wt:=qa9 ex;have wl1:=Q2 (ws.take (i+1));have wl2:=Y5 ws (i+1);refine ⟨_,_,rfl,rfl,(show (0:Int)<6 from O0),.inl ⟨p3,_,_,_,rfl,rfl,SqL.of e6,ha6,.inr (.inl ⟨_,_,rfl,rfl,line ⋯,?_⟩)⟩⟩;refine ⟨_,rfl,_,rfl,.inl ⟨p,_,_,_,rfl,rfl,g7.sqL hS,ql hxi,.inr (.inl ⟨_,_,rfl,rfl,line (by rw [Sho.len_app];omega),?_⟩)⟩⟩
   refine ⟨T++sp++x,_,_,_,rfl,g7,hd6,?_,?_⟩
   ·rw [Bw,ex];exact .snoc mx hsp
   ·rw [wt,Sho.len_app,Sho.len_app]
    push_cast
    omega
  ·obtain ⟨T,o3,o4,o5,rfl,g2,hd2,mx,hT⟩:=h;rw [Cb] at mx hT;exact ⟨_,rfl,q H2 T g2 mx hT⟩
end
theorem qb2 {ws:List Str} {T:Str} (h:Sho.Mixed ws T):(∀ x∈ws,Sho.WOk x)→ws.length≤T.length:=by
 induction h with
 | nil=>exact fun _=>Bm _
 | @snoc ws T x s m sp ih=>
  intro hw;have a:=ih fun y hy=>hw y (B1 _ hy);have l:1≤x.length:=by
   have e:x.cps.toList.length=x.length:=Bn;rcases hw x (by simp) with z | z | z
   ·rw [z];decide+kernel
   ·rw [z];decide+kernel
   ·have l0:0<x.cps.toList.length:=Dh.mpr z.2;omega
  rw [Ak,Cy,Sho.len_app,Sho.len_app];omega
theorem XF {d:Aa} {s t:Nat} {T:Str} (p:Tre.Pt d "program" false s t) (hs:s≤300) (ht:t≤20) (hf:Tre.fit d=true) (m:Sho.Mixed (Sho.wP 20 d) T) (hl:T.length≤6000):Good T d:=by
 have wd:=Sho.wd_part 20 p.tr ht;obtain ⟨e1,e2⟩:=m.words fun x hx=>(wd x hx).ok;have e3:V3 T=Sho.wP 20 d:=e1;have ml:=qb2 m fun x hx=>(wd x hx).ok;refine ⟨?_,?_,fun x hx=>?_,?_,Tre.Js p ht hs,hf⟩
 ·unfold JF;rw [An hl,B0];exact e2
 ·rw [e3];exact Sho.reads 20 p ht ⟨"text",[]⟩ [] .text rfl
 ·rw [e3] at hx;have:=(wd x hx).len;omega
 ·rw [e3];omega
theorem qb3 {d:Aa} {hands:Bool} {s t:Nat} (p:Tre.Pt d "program" hands s t) (hs:s≤300) (ht:t≤20):∃ ps as,d= .tuple [.str "main",.tuple ps,.tuple as]∧Sho.Nams ps∧Sho.Row 19 as:=by
 refine p.el fun s0 t0 es et hf tl=>?_;obtain ⟨hd,ts,fs,l,rfl,hl1,hl2,e,_,hl,hsh,_⟩:=Tre.qK hf;have kid:=Sho.kids_of (k:=19) e tl ⋯ ⋯;have el:l=(["main"]:List Str):=by
  have z:Tre.heads.lookup ("program":Str)=some (["main"]:List Str):=∅;exact Bb (hl1.symm.trans z)
 subst el;cases A0.mp hl2;have e2:Tre.forms.lookup ("main":Str)=some (["names","body"]:List Str):=∅;cases e.symm.trans e2
 match ts,hl,hsh,kid with
 | [x,y],_,hsh,kid=>
  obtain ⟨ps,rfl,hp⟩:=Sho.names_shape (hsh (x,"names") (by simp))
  obtain ⟨as,rfl,ha⟩:=Sho.row_shape (hsh (y,"body") (by simp))
  exact ⟨ps,as,rfl,hp,Sho.row_of_kids (fun z u hz=>kid (.tuple as,"body") (by simp) z u hz) ha⟩
theorem zC {ps as:List Aa}:Sho.wP 20 (.tuple [.str "main",.tuple ps,.tuple as])=Sho.fws (Sho.wP 19) "main" ps as:=Sho.wP_fn ∅
theorem wE {d:Aa} {s t:Nat} (h:Tre.Tr d s t) (ht:t≤20):SeqAt.shaped d=true∧PyData.eqv d d=true:=by
 have gd:=h.gd;have dp:=gd.dep;refine ⟨?_,PySem.SeqAt.eqv_refl _ gd.lay⟩;unfold SeqAt.shaped;rw [gd.lay,An ⋯];rfl
structure Nest (d:Aa) (i:Nat):Prop where
 pt:∃ s t,(∀ hands,Tre.Pt d "statement" hands s t)∧s≤2+2*i∧t≤2+i∧∀ n,t≤n→Sho.wl (Sho.wP n d)≤40+20*i
 ft:Tre.fit d=true
theorem VW {k:Int}:Tre.fit (.tuple [.str "number",.int k])=true:=by
 have e:Tre.fit (.tuple [.str "number",.int k])=(decide (("number":Str).length≤1000000)&&(true&&true)):=rfl;rw [e];decide+kernel
theorem zA {xs:List Aa} (h:∀ x∈xs,Tre.fit x=true):Tre.fit (.tuple xs)=true:=by
 rw [Tre.fit];exact Tre.YR h
theorem j7 (x:Str) (h:x.length≤1000):Tre.fit (.str x)=true:=by
 rw [Tre.fit];exact An ⋯
theorem W7 {i:Int} (h:Tre.jP i=true) (hands:Bool):Tre.Pt (.tuple [.str "number",.int i]) "term" hands 1 1:=by
 refine .mk ?_ .nil;have e:Tre.qQ (.tuple [.str "number",.int i]) "term" hands=((true&&!(false&&!hands))&&(true&&(Tre.jP i&&true))):=rfl;rw [e,h];cases hands <;> rfl
theorem qk3 {i:Int} (h:Tre.jP i=true):Nest (.tuple [.str "do",.tuple [.str "number",.int i]]) 0:=by
 refine ⟨⟨2,2,fun hands=>?_,⋯,⋯,fun n hn=>?_⟩,zA fun x hx=>by
  simp only [Ap,A2,or_false] at hx;rcases hx with rfl | rfl
  ·exact j7 _ ∅
  ·exact VW⟩
 ·exact .mk (by cases hands <;> rfl) (.cons (W7 h _) .nil)
 ·obtain ⟨n,rfl⟩:∃ m,n=m+2:=⟨n - 2,⋯⟩;rw [Sho.wP_one ∅,Sho.wP_num];have:=(Sho.num_of h).len;have e:Sho.wl (("(":Str)::"do"::([Str.ofString (toString i)]++[(")":Str)]))=2+(3+((Str.ofString (toString i)).length+1+(2+0))):=rfl;rw [e];omega
theorem Y4:Tre.jP 0=true∧Tre.jP 1=true:=O0
theorem Qz {n:Nat} {k:Int} (h:k=0∨k=1):Sho.wl (Sho.wP (n+1) (.tuple [.str "number",.int k]))=2:=by
 rw [Sho.wP_num];rcases h with rfl | rfl <;> decide+kernel
theorem Vt (n:Nat) (as:List Aa):Sho.wl (Sho.bws (Sho.wP n) as)=Sho.wl ((as.map (Sho.wP n)).flatten)+4:=Sho.wl_par _
theorem QB {d:Aa} {i:Nat} (h:Nest d i):Nest (.tuple [.str "while",.tuple [.str "number",.int 0],.tuple [d]]) (i+1):=by
 obtain ⟨⟨s,t,p,hs,ht,hw⟩,ft⟩:=h;refine ⟨⟨1+(s+0)+1,max 1 (max t 0)+1,fun hands=>?_,⋯,⋯,fun n hn=>?_⟩,?_⟩
 ·exact .mk (by cases hands <;> rfl) (.cons (W7 Y4.1 _) (.cons (p _) .nil))
 ·obtain ⟨n,rfl⟩:∃ m,n=m+1:=⟨n - 1,⋯⟩;obtain ⟨m,rfl⟩:∃ m,n=m+1:=⟨n - 1,⋯⟩;have h1:=hw (m+1) ⋯;rw [Sho.wP_while,Sho.wl_cons,Sho.wl_cons,Sho.wl_app,Sho.wl_app,Qz (.inl rfl),Vt];have e:(([d].map (Sho.wP (m+1))).flatten)=Sho.wP (m+1) d:=by simp
  have e2:Sho.wl [(")":Str)]=2:=∅;have e3:("(":Str).length=1:=∅;have e4:("while":Str).length=5:=∅;rw [e,e2,e3,e4];omega
 ·refine zA fun x hx=>?_;simp only [Ap,A2,or_false] at hx;rcases hx with rfl | rfl | rfl
  ·exact j7 _ ∅
  ·exact VW
  ·exact zA fun y hy=>by cases A0.mp hy;exact ft
theorem qal {d:Aa} {i:Nat} {k:Int} (hk:k=0∨k=1) (h:Nest d i):Nest (.tuple [.str "if",.tuple [.str "number",.int k],.tuple [d],.tuple []]) (i+1)∧Nest (.tuple [.str "if",.tuple [.str "number",.int k],.tuple [],.tuple [d]]) (i+1):=by
 obtain ⟨⟨s,t,p,hs,ht,hw⟩,ft⟩:=h;have nk:Tre.jP k=true:=by rcases hk with rfl | rfl;exact Y4.1;exact Y4.2
 have e2:Sho.wl [(")":Str)]=2:=∅;have e3:("(":Str).length=1:=∅;have e4:("if":Str).length=2:=∅;have fd:Tre.fit (.tuple [d])=true:=zA fun y hy=>by cases A0.mp hy;exact ft
 constructor
 ·refine ⟨⟨1+(s+0)+1,max 1 (max t 0)+1,fun hands=>?_,⋯,⋯,fun n hn=>?_⟩,?_⟩
  ·exact .mk (by cases hands <;> rfl) (.cons (W7 nk _) (.cons (p _) .nil))
  ·obtain ⟨n,rfl⟩:∃ m,n=m+1:=⟨n - 1,⋯⟩;obtain ⟨m,rfl⟩:∃ m,n=m+1:=⟨n - 1,⋯⟩;have h1:=hw (m+1) ⋯;rw [Sho.wP_if,Sho.wl_cons,Sho.wl_cons,Sho.wl_app,Sho.wl_app,Sho.wl_app,Qz hk,Vt,Vt];have e:(([d].map (Sho.wP (m+1))).flatten)=Sho.wP (m+1) d:=by simp
   have e5:Sho.wl ((([]:List Aa).map (Sho.wP (m+1))).flatten)=0:=rfl;rw [e,e5,e2,e3,e4];omega
  ·refine zA fun x hx=>?_;simp only [Ap,A2,or_false] at hx;rcases hx with rfl | rfl | rfl | rfl
   ·exact j7 _ ∅
   ·exact VW
   ·exact fd
   ·rfl
 ·refine ⟨⟨1+(s+0)+1,max 1 (max t 0)+1,fun hands=>?_,⋯,⋯,fun n hn=>?_⟩,?_⟩
  ·exact .mk (by cases hands <;> rfl) (.cons (W7 nk _) (.cons (p _) .nil))
  ·obtain ⟨n,rfl⟩:∃ m,n=m+1:=⟨n - 1,⋯⟩;obtain ⟨m,rfl⟩:∃ m,n=m+1:=⟨n - 1,⋯⟩;have h1:=hw (m+1) ⋯;rw [Sho.wP_if,Sho.wl_cons,Sho.wl_cons,Sho.wl_app,Sho.wl_app,Sho.wl_app,Qz hk,Vt,Vt];have e:(([d].map (Sho.wP (m+1))).flatten)=Sho.wP (m+1) d:=by simp
   have e5:Sho.wl ((([]:List Aa).map (Sho.wP (m+1))).flatten)=0:=rfl;rw [e,e5,e2,e3,e4];omega
  ·refine zA fun x hx=>?_;simp only [Ap,A2,or_false] at hx;rcases hx with rfl | rfl | rfl | rfl
   ·exact j7 _ ∅
   ·exact VW
   ·rfl
   ·exact fd
section
variable {P:Program} {w:World} {K:Frag} {mg:Str→Option Ab} {base:Heap} {f:Ac} {fd:FuncData} {ad:Ad}
inductive spTrue (vs:List V) (H:Hp) (Q:VK) (E':XK):Prop
 | mk:∀ (cell:Int),(vs=[.int cell])→(∀ H',qy H H'→Q (.bl true) H')→spTrue vs H Q E'
theorem jV {H:Hp} {p:Ac} {vs:List V} {ds:List Aa} (h:H p=some (.tup vs)) (r:Reps K H vs ds):Rep K H (.ref p) (.tuple ds):= .tup (SqT.of h) r
theorem VR (F:Fun K "_law_deep_right" "_law_deep_right" jW f fd) (c:Cs K mg ad) (d_law_function_words:Def P w K mg base 82 "_law_function_words" ["_law_part"] (spLF K 19)) (d_law_text:Def P w K mg base 3 "_law_text" ["_law_words_here","_law_state"] (spTx K)) (d_shown:Def P w K mg base 82 "shown" ["program"] (spShown K)) (d_read:DefX P w K mg base 6 "read" ["text"] (spRead K ad.BadText)):FnOk P w K mg base CX0 83 f fd ["_law_cell"] spTrue:=by
 refine F.ok (k:=82) za (fun vs H Q E h=>?_) (fun cdv A outer s H vs Q E hr h=>?_)
 ·obtain ⟨cell,rfl,_⟩:=h;rfl
 obtain ⟨cell,rfl,q⟩:=h;have hu64:=hr.units;refine ⟨_,(qc (pst 1 za.nd (qB (qa qg (qa (qB (qa qg (qa (qo qP (pv 0) qd) qb Qh) qX)) qb zB) qX)))
   (qc (JO C3 rfl (ja rfl c.range_ (qa (qo qA qd (qo qP (qo zQ (pv 0) qd) qd)) qb Qh)) (pgn 2 za.nd) (qc (pst 3 za.nd (qJ (qa (qB (qa qg (qa (qB (qa qg (qa qd qb qX) qX)) (qa (qB (qa (pv 1) qb jp)) qb zB) zB) qX)) (qa (qB (qa qg (qa (qB (qa qg (qa qd qb qX) qX)) (qa (qB (qa (pv 1) qb jp)) (qa (qB qb) qb zB) zB) zB) qX)) qb zB) zB)))
   (qc (zP (vw (K:=K) rfl By Ck Cl jG (pv 3) (qa (qB (qa qg (qa (qB (qa qg (qa qd qb qX) qX)) (qa (qB qb) (qa (qB (qa (pv 1) qb jp)) qb zB) zB) zB) qX)) qb zB)))
   (qf (pst 1 za.nd (pix K (pv 3) (qo qP (qo qA (qo zQ (pv 0) qd) (pv 2)) qd)))))))
   (qc (pst 4 za.nd (qB (qa qg (qa (qB qb) (qa (qB (qa (pv 1) qb jp)) qb zB) zB) qX)))
   (qc (pst 5 za.nd (pdf d_law_text (qa (pdf d_law_function_words (qa (pv 4) qb jp)) (qa W0 qb qX) qab)))
   (qf (qr (wc (zf qT (pdf d_shown (qa (pv 4) qb jp)) (pv 5) (qw _)) (JA (zf (qlf (K:=K) rfl hu64) (VN d_read (hr.mono (by first | decide | omega)) qed (qa (pv 5) qb jp)) (pv 4) (qw _)))))))))),?_⟩
 clear hu64;have m0:=Be cell (show (1000:Int)≠0 from O0);have m1:=A9 cell (show (0:Int)<1000 from O0);have nb:Tre.jP (cell % 1000)=true:=by
  unfold Tre.jP;rw [An ⋯,An ⋯];rfl
 refine qv fun D2 h2 r2=>⟨_,rfl,_,_,rfl,rfl,(show (0:Int)<1000 from O0),(O0:2≤Af),fun p1 hp1=>?_⟩;refine qp (qy.refl H) hp1 fun H1 g1 s1 n1 e1=>?_;refine ⟨(O0:2≤Af),fun p2 hp2=>?_⟩;refine qp g1 hp2 fun H2 g2 s2 n2 e2=>h2 _ _ ?_;have rd0:Rep K H2 (.ref p2) (.tuple [.str "do",.tuple [.str "number",.int (cell % 1000)]]):=jV e2 (.cons (.str _) (.cons (jV (s2 _ _ e1) (.cons (.str _) (.cons (.int _) .nil))) .nil));have k0:=Be (cell / 1000) (show (9:Int)≠0 from O0);have k1:=A9 (cell / 1000) (show (0:Int)<9 from O0);refine qv fun D3 h3 r3=>⟨_,rfl,_,_,rfl,rfl,⟨O0,O0⟩,_,_,rfl,rfl,(show (0:Int)<9 from O0),.inl ⟨_,_,rfl,rfl,_,rfl,⋯,⋯,?_⟩⟩;refine wq (n:=(8+cell / 1000 % 9).toNat) (fun i σ H'=>∃ x d o2 o3,σ=[some (.int cell),some x,o2,o3,none,none]∧qy H H'∧Rep K H' x d∧Nest d i) ?_ (fun i σ H3 hi h=>?_) (fun σ H3 h=>?_)
 ·exact ⟨_,_,none,none,rfl,g2,rd0,qk3 nb⟩
 ·obtain ⟨x,d,o2,o3,rfl,g3,rx,ns⟩:=h;obtain ⟨s0,t0,pt0,_,ht0,hw0⟩:=ns.pt;have nold:Tre.noL d=true:=(pt0 false).tr.gd.nol;refine qv fun D4 h4 r4=>⟨(O0:2≤Af),fun p1 hp1=>?_⟩;refine qp (qy.refl H3) hp1 fun H4 g4 s4 n4 e4=>?_;refine ⟨_,rfl,(O0:1≤Af),fun p2 hp2=>?_⟩;refine qp g4 hp2 fun H5 g5 s5 n5 e5=>?_;refine ⟨(O0:3≤Af),fun p3 hp3=>?_⟩;refine qp g5 hp3 fun H6 g6 s6 n6 e6=>?_;have rA:Rep K H6 (.ref p3) (.tuple [.str "while",.tuple [.str "number",.int 0],.tuple [d]]):=jV e6 (.cons (.str _) (.cons (jV (s6 _ _ (s5 _ _ e4)) (.cons (.str _) (.cons (.int _) .nil))) (.cons (jV (s6 _ _ e5) (.cons (rx.same g6) .nil)) .nil)));refine ⟨(O0:2≤Af),fun p4 hp4=>?_⟩;refine qp g6 hp4 fun H7 g7 s7 n7 e7=>?_;refine ⟨_,rfl,(O0:1≤Af),fun p5 hp5=>?_⟩;refine qp g7 hp5 fun H8 g8 s8 n8 e8=>?_;refine ⟨(O0:0≤Af),fun p6 hp6=>?_⟩;refine qp g8 hp6 fun H9 g9 s9 n9 e9=>?_;refine ⟨(O0:4≤Af),fun p7 hp7=>?_⟩;refine qp g9 hp7 fun Ha ga sa na ea=>?_;have rB:Rep K Ha (.ref p7) (.tuple [.str "if",.tuple [.str "number",.int 1],.tuple [d],.tuple []]):=jV ea (.cons (.str _) (.cons (jV (sa _ _ (s9 _ _ (s8 _ _ e7))) (.cons (.str _) (.cons (.int _) .nil))) (.cons (jV (sa _ _ (s9 _ _ e8)) (.cons (rx.same ga) .nil)) (.cons (jV (sa _ _ e9) .nil) .nil))));refine ⟨(O0:2≤Af),fun p8 hp8=>?_⟩;refine qp ga hp8 fun Hb gb sb nb eb=>h4 _ _ ?_;refine qv fun D5 h5 r5=>⟨_,rfl,.inl ⟨rfl,_,SqL.of eb⟩,(O0:2≤Af),fun p9 hp9=>?_⟩;refine qp gb hp9 fun Hc gc sc nc ec=>?_;refine ⟨(O0:0≤Af),fun pa hpa=>?_⟩;refine qp gc hpa fun Hd gd sd nd ed=>?_;refine ⟨_,rfl,(O0:1≤Af),fun pb hpb=>?_⟩;refine qp gd hpb fun He ge se ne ee=>?_;refine ⟨(O0:4≤Af),fun pc hpc=>?_⟩;refine qp ge hpc fun Hf gf sf nf ef=>?_;have rC:Rep K Hf (.ref pc) (.tuple [.str "if",.tuple [.str "number",.int 0],.tuple [],.tuple [d]]):=jV ef (.cons (.str _) (.cons (jV (sf _ _ (se _ _ (sd _ _ ec))) (.cons (.str _) (.cons (.int _) .nil))) (.cons (jV (sf _ _ (se _ _ ed)) .nil) (.cons (jV (sf _ _ ee) (.cons (rx.same gf) .nil)) .nil))));have toF:qy Hb Hf:=((sc.trans sd).trans se).trans sf;have eF:=toF _ _ eb;have rA2:=rA.same ((((s7.trans s8).trans s9).trans sa).trans (sb.trans toF));have rB2:=rB.same (sb.trans toF);refine ⟨p8,_,_,rfl,rfl,eF,(O0:2<Af),h5 _ _ ?_⟩;have nolN:Tre.noL (.tuple [.str "number",.int 0])=true∧Tre.noL (.tuple [.str "number",.int 1])=true:=⟨rfl,rfl⟩;have nD:Tre.noL (.tuple [d])=true:=by
   rw [Tre.noL,Tre.zY,nold];rfl
  have nA:Tre.noL (.tuple [.str "while",.tuple [.str "number",.int 0],.tuple [d]])=true:=by
   rw [Tre.noL,Tre.zY,Tre.zY,Tre.zY,nD,nolN.1];rfl
  have nB:Tre.noL (.tuple [.str "if",.tuple [.str "number",.int 1],.tuple [d],.tuple []])=true:=by
   rw [Tre.noL,Tre.zY,Tre.zY,Tre.zY,nD,nolN.2];rfl
  have nC:Tre.noL (.tuple [.str "if",.tuple [.str "number",.int 0],.tuple [],.tuple [d]])=true:=by
   rw [Tre.noL,Tre.zY,Tre.zY,Tre.zY,Tre.zY,nD,nolN.1];rfl
  have rA3:=Rep.put (o':= .lst ([.ref p3,.ref p7]++[.ref pc])) eF rA2 nA;have rB3:=Rep.put (o':= .lst ([.ref p3,.ref p7]++[.ref pc])) eF rB2 nB;have rC3:=Rep.put (o':= .lst ([.ref p3,.ref p7]++[.ref pc])) eF rC nC;have gw:qy H (upd Hf p8 (.lst ([.ref p3,.ref p7]++[.ref pc]))):=g3.trans (zo gf nb _);have ew:upd Hf p8 (.lst ([.ref p3,.ref p7]++[.ref pc])) p8=some (.lst [.ref p3,.ref p7,.ref pc]):=upd_same;generalize upd Hf p8 (.lst ([.ref p3,.ref p7]++[.ref pc]))=Hw at rA3 rB3 rC3 gw ew ⊢;have z0:=Be (cell / 9000+(0+(i:Int))) (show (3:Int)≠0 from O0);have z1:=A9 (cell / 9000+(0+(i:Int))) (show (0:Int)<3 from O0);have pick:∃ v d',atI ([.ref p3,.ref p7,.ref pc]:List V) ((cell / 9000+(0+(i:Int))) % 3)=some v∧Rep K Hw v d'∧Nest d' (i+1):=by
   generalize (cell / 9000+(0+(i:Int))) % 3=z at z0 z1;obtain ⟨j,rfl⟩:=Int.eq_ofNat_of_zero_le z0;have hj:j<3:=⋯
   match j,hj with
   | 0,_=>exact ⟨_,_,ql (j:=0) rfl,rA3,QB ns⟩
   | 1,_=>exact ⟨_,_,ql (j:=1) rfl,rB3,(qal (.inr rfl) ns).1⟩
   | 2,_=>exact ⟨_,_,ql (j:=2) rfl,rC3,(qal (.inl rfl) ns).2⟩
  obtain ⟨v,d',hv,rv,ns'⟩:=pick;exact ⟨_,rfl,_,rfl,_,_,rfl,rfl,⟨O0,O0⟩,_,rfl,.inl ⟨_,_,rfl,rfl,_,_,rfl,rfl,(show (0:Int)<3 from O0),.inl ⟨p8,_,_,_,rfl,rfl,SqL.of ew,hv,⟨_,_,_,_,rfl,gw,rv,ns'⟩⟩⟩⟩
 ·obtain ⟨x,d,o2,o3,rfl,g3,rx,ns⟩:=h;obtain ⟨⟨s0,t0,pt0,hs0,ht0,hw0⟩,ft0⟩:=ns;refine h3 _ _ (qv fun D4 h4 r4=>⟨(O0:0≤Af),fun p1 hp1=>?_⟩);refine qp g3 hp1 fun H4 g4 s4 n4 e4=>?_;refine ⟨_,rfl,(O0:1≤Af),fun p2 hp2=>?_⟩;refine qp g4 hp2 fun H5 g5 s5 n5 e5=>?_;refine ⟨(O0:3≤Af),fun p3 hp3=>?_⟩;refine qp g5 hp3 fun H6 g6 s6 n6 e6=>h4 _ _ ?_;have rP:Rep K H6 (.ref p3) (.tuple [.str "main",.tuple [],.tuple [d]]):=jV e6 (.cons (.str _) (.cons (jV (s6 _ _ (s5 _ _ e4)) .nil) (.cons (jV (s6 _ _ e5) (.cons (rx.same ((s4.trans s5).trans s6)) .nil)) .nil)));have pP:Tre.Pt (.tuple [.str "main",.tuple [],.tuple [d]]) "program" false (s0+0+1) (max t0 0+1):= .mk rfl (.cons (pt0 _) .nil);have ki:(8+cell / 1000 % 9).toNat≤16:=⋯;have hs1:s0+0+1≤300:=⋯;have ht1:max t0 0+1≤20:=⋯;have fP:Tre.fit (.tuple [.str "main",.tuple [],.tuple [d]])=true:=zA fun y hy=>by
   simp only [Ap,A2,or_false] at hy;rcases hy with rfl | rfl | rfl
   ·exact j7 _ ∅
   ·rfl
   ·exact zA fun z hz=>by cases A0.mp hz;exact ft0
  have nm:Sho.Nams []:=⟨O0,fun x hx=>by cases hx⟩
  have row:Sho.Row 19 [d]:=⟨fun z hz=>by cases A0.mp hz;exact ⟨false,s0,t0,pt0 false,⋯,⋯⟩,(O0:1≤12)⟩
  have wlP:Sho.wl (Sho.wP 20 (.tuple [.str "main",.tuple [],.tuple [d]]))≤600:=by
   have h1:=hw0 19 ⋯;rw [zC];have e:Sho.fws (Sho.wP 19) "main" [] [d]=("(":Str)::"main"::("(":Str)::(")":Str)::(Sho.wP 19 d++[(")":Str)]):=by
    unfold Sho.fws;simp
   rw [e,Sho.wl_cons,Sho.wl_cons,Sho.wl_cons,Sho.wl_cons,Sho.wl_app];have e1:("(":Str).length=1:=∅;have e2:("main":Str).length=4:=∅;have e3:(")":Str).length=1:=∅;have e4:Sho.wl [(")":Str)]=2:=∅;rw [e1,e2,e3,e4];omega
  have lw:=Sho.len_wl (Sho.wP 20 (.tuple [.str "main",.tuple [],.tuple [d]]));refine qv fun D5 h5 r5=>⟨_,rfl,_,"main",[],[d],rfl,rP,nm,row,by rw [← zC];omega,fun H7 p4 g7 n7 e7=>?_⟩
  rw [← zC] at e7;refine ⟨p4,_,SqL.of e7,⋯,⋯,.inl ⟨rfl,fun H8 g8=>h5 _ _ ?_⟩⟩;have g78:=g7.trans g8;refine ⟨_,rfl,_,_,_,_,rfl,rP.same g78,fP,Tre.Js pP ht1 hs1,pP.tr,hs1,ht1,fun H9 g9=>⟨_,rfl,rfl,_,rfl,zp (deq rfl) ?_⟩⟩;have tl:=Sho.tx_le wlP;have gd:=XF pP hs1 ht1 fP (Sho.mixed_tx _ _ rfl) ⋯;obtain ⟨sh,ev⟩:=wE pP.tr ht1;refine ⟨_,rfl,_,rfl,⋯,.inl ⟨_,gd,fun Ha v ga rv=>?_⟩⟩;refine ⟨_,rfl,_,_,rv,rP.same ((g78.trans g9).trans ga),sh,sh,?_⟩;rw [ev];exact q _ (g6.trans ((g78.trans g9).trans ga))
end
seal L2.PE L2.PS L2.PSs L2.PA L2.PT
structure LN (x:Str) (j:Nat):Prop where
 nm:Tre.qG x=true
 last:x.cps.toList.getLast?=some (97+j)
 len:x.length=8
abbrev abc:Str:="abcdefghijklmnopqrstuvwxyz"
theorem qfw {z:Int} (h0:0≤z) (h1:z<26):atI abc.cps.toList z=some (97+z.toNat):=by
 obtain ⟨j,rfl⟩:=Int.eq_ofNat_of_zero_le h0;have hj:j<26:=⋯;have q:∀ j,j<26→abc.cps.toList[j]?=some (97+j):=∅;exact ql (q j hj)
theorem YA:∀ cs:List Nat,(Txt.join (Str.ofString "") (cs.map fun c=>(⟨#[c]⟩:Str))).cps.toList=cs:=fun cs=>by
 rw [X8]
 induction cs with
 | nil=>decide+kernel
 | cons c r ih=>
  cases r with
  | nil=>rfl
  | cons d r=>
   rw [As] at ih;show ((⟨#[c]⟩:Str)++Str.ofString ""++Str.join (Str.ofString "") (⟨#[d]⟩::r.map fun c=>(⟨#[c]⟩:Str))).cps.toList=_;rw [Sho.cps_app,Sho.cps_app,ih];have e:(Str.ofString "").cps.toList=[]:=∅;rw [e];rfl
theorem qef (cs:List Nat):((cs.map fun c=>(⟨#[c]⟩:Str)).map (·.length)).sum=cs.length:=by
 induction cs with
 | nil=>rfl
 | cons c r ih=>
  rw [As,As,B9,ih,Aj];show 1+_=_;omega
theorem qk8 {cs:List Nat} {T:Str} {j:Nat} (e:T.cps.toList=cs) (h7:cs.length=7) (ha:∀ c∈cs,97≤c∧c≤122) (hj:j<4):LN (T++⟨#[97+j]⟩) j:=by
 have e2:(T++(⟨#[97+j]⟩:Str)).cps.toList=cs++[97+j]:=by rw [Sho.cps_app,e]
 have l:(T++(⟨#[97+j]⟩:Str)).length=8:=by
  have:(T++(⟨#[97+j]⟩:Str)).cps.toList.length=8:=by rw [e2,Ak,h7];rfl
  rw [← this];exact Bn.symm
 refine ⟨?_,by rw [e2];exact Dw,l⟩
 unfold Tre.qG;rw [l,e2,List.all_append];have q:cs.all (fun c=>decide (97≤c)&&decide (c≤122))=true:=A4.mpr fun c hc=>by
  rw [An (ha c hc).1,An (ha c hc).2];rfl
 rw [q];show (true&&(true&&((decide (97≤97+j)&&decide (97+j≤122))&&true)))=true;rw [An ⋯,An ⋯];rfl
theorem LN.fac {x:Str} {j:Nat} (h:LN x j):x≠"("∧x≠")":=⟨fun e=>absurd h.len (by rw [e];decide+kernel),fun e=>absurd h.len (by rw [e];decide+kernel)⟩
theorem LN.ne {x y:Str} {i j:Nat} (h:LN x i) (h':LN y j) (hij:i≠j):x≠y:=fun e=>by
 have a:=h.last;rw [e,h'.last] at a;exact hij (by have:=Bb a;omega)
abbrev dF (ns:List Aa):Aa:= .tuple [.str "fun",.tuple ns,.tuple []]
abbrev dD (ns:List Aa):Aa:= .tuple [.str "do",dF ns]
abbrev dN:Aa:= .tuple [.str "number",.int 7]
abbrev dI (ns:List Aa):Aa:= .tuple [.str "if",dN,.tuple (List.replicate 12 (dD ns)),.tuple []]
abbrev dM (ns:List Aa):Aa:= .tuple [.str "main",.tuple [],.tuple (List.replicate 11 (dI ns))]
theorem Xm {d:Aa} {sh:Str} {hands:Bool} {s t:Nat} (h:Tre.Pt d sh hands s t):∀ k,∃ t',t'≤t∧Tre.Ptl (List.replicate k (d,sh)) hands (k*s) t'
 | 0=>⟨0,Bm _,by rw [Nat.zero_mul];exact .nil⟩
 | k+1=>by
  obtain ⟨t',a,b⟩:=Xm h k;refine ⟨max t t',⋯,?_⟩;have:=Tre.Ptl.cons h b;rw [Nat.succ_mul,Nat.add_comm (k*s)];exact this
theorem qel {a b c d:Str} (ha:LN a 0) (hb:LN b 1) (hc:LN c 2) (hd:LN d 3):Tre.areNames (.tuple [.str a,.str b,.str c,.str d])=true:=by
 have e:Tre.areNames (.tuple [.str a,.str b,.str c,.str d])=(true&&(Tre.qG a&&(Tre.qG b&&(Tre.qG c&&(Tre.qG d&&true))))&&decide (([a,b,c,d]:List Str).Nodup)):=rfl;have n:([a,b,c,d]:List Str).Nodup:=by
  simp [ha.ne hb O0,ha.ne hc O0,ha.ne hd O0,hb.ne hc O0,hb.ne hd O0,hc.ne hd O0]
 rw [e,ha.nm,hb.nm,hc.nm,hd.nm,An n];rfl
theorem qll {ns:List Aa} (h:Tre.areNames (.tuple ns)=true) (hands:Bool):Tre.Pt (dD ns) "statement" hands 2 2:=by
 have f:∀ hands,Tre.Pt (dF ns) "term" hands 1 1:=fun hands=>by
  refine .mk ?_ .nil;have e:Tre.qQ (dF ns) "term" hands=((true&&!(false&&!hands))&&(true&&(Tre.areNames (.tuple ns)&&(true&&true)))):=rfl;rw [e,h];cases hands <;> rfl
 exact .mk (by cases hands <;> rfl) (.cons (f _) .nil)
theorem qid {ns:List Aa} (h:Tre.areNames (.tuple ns)=true) (hands:Bool):∃ t,t≤3∧Tre.Pt (dI ns) "statement" hands 26 t:=by
 obtain ⟨t',a,b⟩:=Xm (qll h (Tre.Jg (dI ns) hands)) 12;exact ⟨max 1 t'+1,⋯,.mk (by cases hands <;> rfl) (.cons (W7 O0 _) b)⟩
theorem qli {ns:List Aa} (h:Tre.areNames (.tuple ns)=true):∃ t,t≤4∧Tre.Pt (dM ns) "program" false 287 t:=by
 obtain ⟨t,e,p⟩:=qid h (Tre.Jg (dM ns) false);obtain ⟨t',a,b⟩:=Xm p 11;exact ⟨t'+1,⋯,.mk rfl b⟩
theorem qaw {d:Aa} (h:Tre.fit d=true) (k:Nat):Tre.fit (.tuple (List.replicate k d))=true:=zA fun x hx=>by rw [List.eq_of_mem_replicate hx];exact h
theorem qju {ns:List Aa} (h:Tre.fit (.tuple ns)=true):Tre.fit (dM ns)=true:=by
 have s:∀ x:Str,x∈(["fun","do","if","main"]:List Str)→Tre.fit (.str x)=true:=fun x hx=>by
  simp only [Ap,A2,or_false] at hx;rcases hx with rfl | rfl | rfl | rfl <;> exact j7 _ ∅
 have z:Tre.fit (.tuple [])=true:=rfl;have f:Tre.fit (dF ns)=true:=zA fun y hy=>by
  simp only [Ap,A2,or_false] at hy;rcases hy with rfl | rfl | rfl
  ·exact s _ O0
  ·exact h
  ·exact z
 have d:Tre.fit (dD ns)=true:=zA fun y hy=>by
  simp only [Ap,A2,or_false] at hy;rcases hy with rfl | rfl
  ·exact s _ O0
  ·exact f
 have i:Tre.fit (dI ns)=true:=zA fun y hy=>by
  simp only [Ap,A2,or_false] at hy;rcases hy with rfl | rfl | rfl | rfl
  ·exact s _ O0
  ·exact VW
  ·exact qaw d 12
  ·exact z
 exact zA fun y hy=>by
  simp only [Ap,A2,or_false] at hy;rcases hy with rfl | rfl | rfl
  ·exact s _ O0
  ·exact z
  ·exact qaw i 11
def LB (ws:List Str) (n:Nat):Prop:=∀ p,n≤(Sho.run p ws).length
theorem LB.app {a b:List Str} {n m:Nat} (h:LB a n) (h':LB b m):LB (a++b) (n+m):=fun p=>by
 rw [Sho.run_app,Sho.len_app];exact Nat.add_le_add (h p) (h' _)
theorem LB.cons {a:List Str} {n:Nat} (w:Str) (h:LB a n):LB (w::a) n:=fun p=>by
 rw [Sho.run,Sho.len_app];exact Aw (h w) (Nat.le_add_left _ _)
theorem LB.zero (a:List Str):LB a 0:=fun _=>Bm _
theorem LB.rep {a:List Str} {n:Nat} (h:LB a n):∀ k,LB (List.replicate k a).flatten (k*n)
 | 0=>by rw [Nat.zero_mul];exact LB.zero _
 | k+1=>by
  rw [Cm,Bp,Nat.succ_mul,Nat.add_comm];exact h.app (LB.rep h k)
theorem qe2 {x y:Str} {i j:Nat} (h:LN x i) (h':LN y j):(Sho.glue x y).length=9:=by
 unfold Sho.glue Sho.tight;rw [if_neg (by rw [Bt,Az,Az];exact fun z=>z.elim h.fac.1 h'.fac.2),Sho.len_app,h'.len]
 decide+kernel
theorem XG (p w:Str):w.length≤(Sho.glue p w).length:=by
 unfold Sho.glue;rw [Sho.len_app];omega
theorem qlm {n:Nat} {a b c d:Str} (ha:LN a 0) (hb:LN b 1) (hc:LN c 2) (hd:LN d 3):LB (Sho.wP (n+2) (dD [.str a,.str b,.str c,.str d])) 48:=by
 rw [Sho.wP_one ∅,Sho.wP_fn ∅];intro p;have e:("(":Str)::("do":Str)::(Sho.fws (Sho.wP n) "fun" [.str a,.str b,.str c,.str d] []++[(")":Str)])=(["(","do","(","fun","(",a,b,c,d,")",")",")"]:List Str):=rfl;rw [e];simp only [Sho.run,Sho.len_app];have h1:=XG p "(";have h2:=XG "(" a;have h3:=XG d ")";have e1:(Sho.glue "(" "do").length=2:=∅;have e2:(Sho.glue "do" "(").length=2:=∅;have e3:(Sho.glue "(" "fun").length=3:=∅;have e4:(Sho.glue "fun" "(").length=2:=∅;have e5:(Sho.glue ")" ")").length=1:=∅;have e6:("(":Str).length=1:=∅;have e7:(")":Str).length=1:=∅;rw [e1,e2,e3,e4,e5,qe2 ha hb,qe2 hb hc,qe2 hc hd];rw [e6] at h1;rw [e7] at h3;rw [ha.len] at h2;omega
theorem qlj {a b c d:Str} (ha:LN a 0) (hb:LN b 1) (hc:LN c 2) (hd:LN d 3):6000<(Sho.tx (Sho.wP 20 (dM [.str a,.str b,.str c,.str d]))).length:=by
 have l1:LB (Sho.wP 19 (dI [.str a,.str b,.str c,.str d])) 576:=by
  rw [Sho.wP_if];refine .cons _ (.cons _ ?_);have q:LB (Sho.bws (Sho.wP 18) (List.replicate 12 (dD [.str a,.str b,.str c,.str d]))) 576:=by
   unfold Sho.bws;refine .cons _ ?_;rw [Es];exact ((qlm (n:=16) ha hb hc hd).rep 12).app (.zero _)
  have:=(LB.zero (Sho.wP 18 dN)).app (q.app (LB.zero (Sho.bws (Sho.wP 18) []++[(")":Str)])));rw [Nat.zero_add] at this;exact this
 rw [zC];unfold Sho.fws;rw [Sho.tx,Sho.len_app];have l2:LB ("main"::("(":Str)::(([]:List Aa).map Sho.strOf++((")":Str)::(((List.replicate 11 (dI [.str a,.str b,.str c,.str d])).map (Sho.wP 19)).flatten++[(")":Str)])))) (11*576):=by
  refine .cons _ (.cons _ (.cons _ ?_));rw [Es];exact (l1.rep 11).app (.zero _)
 have:=l2 "(";omega
theorem Z1 (a:List Str):∀ k,Sho.wl (List.replicate k a).flatten=k*Sho.wl a
 | 0=>by rw [Nat.zero_mul];rfl
 | k+1=>by
  rw [Cm,Bp,Nat.succ_mul,Sho.wl_app,Z1 a k,Nat.add_comm]
theorem qlk {n:Nat} {a b c d:Str} (ha:LN a 0) (hb:LN b 1) (hc:LN c 2) (hd:LN d 3):Sho.wl (Sho.wP (n+2) (dD [.str a,.str b,.str c,.str d]))=55:=by
 rw [Sho.wP_one ∅,Sho.wP_fn ∅];have e:Sho.wl (("(":Str)::("do":Str)::(Sho.fws (Sho.wP n) "fun" [.str a,.str b,.str c,.str d] []++[(")":Str)]))=2+(3+(2+(4+(2+(a.length+1+(b.length+1+(c.length+1+(d.length+1+(2+(2+(2+0))))))))))):=rfl;rw [e,ha.len,hb.len,hc.len,hd.len]
theorem qlh {a b c d:Str} (ha:LN a 0) (hb:LN b 1) (hc:LN c 2) (hd:LN d 3):Sho.wl (Sho.wP 20 (dM [.str a,.str b,.str c,.str d]))≤10000:=by
 have e2:Sho.wl [(")":Str)]=2:=∅;have e3:("(":Str).length=1:=∅;have e4:("if":Str).length=2:=∅;have e5:("main":Str).length=4:=∅;have e6:(")":Str).length=1:=∅;have e7:Sho.wl (Sho.wP 18 dN)=2:=by rw [Sho.wP_num];decide+kernel
 have e8:Sho.wl ((([]:List Aa).map (Sho.wP 18)).flatten)=0:=rfl;have l1:Sho.wl (Sho.wP 19 (dI [.str a,.str b,.str c,.str d]))=677:=by
  rw [Sho.wP_if,Sho.wl_cons,Sho.wl_cons,Sho.wl_app,Sho.wl_app,Sho.wl_app,Vt,Vt,e7,e8,Es,Z1,qlk (n:=16) ha hb hc hd,e2,e3,e4]
 rw [zC];unfold Sho.fws;rw [Sho.wl_cons,Sho.wl_cons,Sho.wl_cons,Sho.wl_app,Sho.wl_cons,Sho.wl_app,Es,Z1,l1,e2,e3,e5,e6];decide+kernel
theorem WV {K:Frag} {H:Hp} {v:V} {d:Aa} (h:Rep K H v d):∀ k,Reps K H (List.replicate k v) (List.replicate k d)
 | 0=> .nil
 | k+1=> .cons h (WV h k)
section
variable {P:Program} {w:World} {K:Frag} {mg:Str→Option Ab} {base:Heap} {f:Ac} {fd:FuncData} {ad:Ad}
theorem VQ (F:Fun K "_law_long_right" "_law_long_right" jt f fd) (c:Cs K mg ad) (d_law_function_words:Def P w K mg base 82 "_law_function_words" ["_law_part"] (spLF K 19)) (d_law_text:Def P w K mg base 3 "_law_text" ["_law_words_here","_law_state"] (spTx K)) (d_shown:Def P w K mg base 82 "shown" ["program"] (spShown K)) (d_read:DefX P w K mg base 6 "read" ["text"] (spRead K ad.BadText)):FnOk P w K mg base CX0 83 f fd ["_law_cell"] spTrue:=by
 refine F.ok (k:=82) zi (fun vs H Q E h=>?_) (fun cdv A outer s H vs Q E hr h=>?_)
 ·obtain ⟨cell,rfl,_⟩:=h;rfl
 obtain ⟨cell,rfl,q⟩:=h;refine ⟨_,(qc (pst 1 zi.nd qg)
   (qc (pst 2 zi.nd (qM (jJ (K:=K) rfl) (by rfl) c.tuple_ zK (qa (qec (z:="_law_k") (sc:=qj jt) (NX:=["_law_cell","_law_letters","_law_names_here","_law_body_here","_law_program_here","_law_due"]) (N:=["_law_k","_law_letters","_law_cell"]) (js:=[none,some 1,some 0]) (ja rfl c.range_ (qa qd qb qX)) (fun _ _ _ _ _=>(zy (i:=0) (show (["_law_k","_law_letters","_law_cell"]:List Str).Nodup from ∅) rfl (Or.inr rfl))) (fun _ _ _ _ _=>jN) (fun _ _ _ _ _=>(qo qA (vw (K:=K) rfl Cg Dp Dq (yf (K:=K) rfl) qg (qa (jB (NX:=["_law_k","_law_letters","_law_cell"]) (N:=["_law_j","_law_letters","_law_cell","_law_k"]) (js:=[none,some 1,some 2,some 0]) (ja rfl c.range_ (qa qd qb qX)) (fun _ _ _ _ _=>(zy (i:=0) (show (["_law_j","_law_letters","_law_cell","_law_k"]:List Str).Nodup from ∅) rfl (Or.inl rfl))) (fun _ _ _ _ _=>jN) (fun _ _ _ _ _=>(pix K (pv 1) (qo qP (qo qA (qo qA (pv 2) (qo Ji qd (pv 3))) (qo Ji (pv 0) (pv 0))) qd))) (zX rfl) (qch ⟨∅,rfl,∅,∅,rfl,∅⟩) (hsc:=rfl)) qb)) (pix K (pv 1) (pv 0)))) (zX rfl) ⟨fun _ _=>rfl,∅,∅,rfl,∅,∅,rfl,∅⟩) qb)))
   (qc (pst 3 zi.nd (qo (qen (K:=K) rfl) (qB (qa (qB (qa qg (qa (qB (qa qg (qa (pv 2) (qa (qB qb) qb zB) jp) qX)) qb zB) qX)) qb zB)) qd))
   (qc (pst 4 zi.nd (qB (qa qg (qa (qB qb) (qa (qo (qen (K:=K) rfl) (qB (qa (qB (qa qg (qa (qB (qa qg (qa qd qb qX) qX)) (qa (pv 3) (qa (qB qb) qb zB) jp) zB) qX)) qb zB)) qd) qb Qh) zB) qX)))
   (qc (pst 5 zi.nd (pdf d_law_text (qa (pdf d_law_function_words (qa (pv 4) qb jp)) (qa W0 qb qX) qab)))
   (qc (qD (PW.pt (Jc (qq W4 (qz (zN (K:=K) rfl) (by rfl) c.len_ ze (qa (pv 5) qb jp)) qd (qw _)) (jL (qq VO (pdf d_shown (qa (pv 4) qb jp)) (pv 5) (qw _))))) (qf (qr zW)) qt)
   (qc (qgv (K:=K) rfl (fun _ _=>(qf (zP (VN d_read (hr.mono (by first | decide | omega)) qkx (qa (pv 5) qb jp))))) (fun _=>(qf (qr zW))) c.m_BadText)
   (qf (qr zW))))))))),?_⟩
 refine qv fun D1 h1 _=>h1 _ _ ?_;refine qv fun D2 h2 _=>⟨4,rfl,O0,O0,ji 4 (fun k ys H'=>qy H H'∧∃ xs:List Str,ys=xs.map V.str∧xs.length=k∧∀ j x,xs[j]?=some x→LN x j) ?_ (fun k ys H' hh=>?_) O0 (fun k ys H' hk hh=>?_) (fun ys H' hh=>?_)⟩
 ·exact ⟨qy.refl _,[],rfl,rfl,fun j x e=>by cases e⟩
 ·obtain ⟨_,xs,rfl,e,_⟩:=hh;rw [Ah,e];exact Ax _
 ·obtain ⟨g,xs,rfl,ex,hx⟩:=hh;refine ⟨hk,fun v H2 yl=>?_⟩;obtain ⟨rfl,rfl⟩:=yl;refine ⟨rfl,7,rfl,O0,O0,ji 7 (fun j ys H3=>H3=H2∧∃ cs:List Nat,ys=(cs.map fun c=>(⟨#[c]⟩:Str)).map V.str∧cs.length=j∧∀ c∈cs,97≤c∧c≤122) ⟨rfl,[],rfl,rfl,fun c hc=>by cases hc⟩ (fun j ys H3 hh=>?_) O0 (fun j ys H3 hj hh=>?_) (fun ys H3 hh=>?_)⟩
  ·obtain ⟨_,cs,rfl,e,_⟩:=hh;rw [Ah,Ah,e];exact Ax _
  ·obtain ⟨rfl,cs,rfl,ec,hc⟩:=hh;refine ⟨hj,fun v H4 yl=>?_⟩;obtain ⟨rfl,rfl⟩:=yl;have z0:=Be (cell+3*(0+(k:Int))+(0+(j:Int))*(0+(j:Int))) (show (26:Int)≠0 from O0);have z1:=A9 (cell+3*(0+(k:Int))+(0+(j:Int))*(0+(j:Int))) (show (0:Int)<26 from O0);refine ⟨_,rfl,_,rfl,_,rfl,_,_,rfl,rfl,.inl ⟨O0,O0⟩,.inl ⟨_,_,rfl,rfl,_,rfl,_,rfl,_,_,rfl,rfl,.inl ⟨⋯,⋯⟩,.inl ⟨_,_,rfl,rfl,_,_,rfl,rfl,(show (0:Int)<26 from O0),.inr (.inr ⟨abc,_,_,rfl,rfl,∅,qfw z0 z1,rfl,cs++[97+((cell+3*(0+(k:Int))+(0+(j:Int))*(0+(j:Int))) % 26).toNat],?_,?_,?_⟩)⟩⟩⟩
   ·rw [A1,A1];rfl
   ·rw [Ak,ec];rfl
   ·intro c hcc;rcases Ci.mp hcc with h | h
    ·exact hc c h
    ·cases A0.mp h;omega
  ·obtain ⟨rfl,cs,rfl,ec,hc⟩:=hh;refine ⟨Ax _,fun D hD=>?_⟩;have ek:(0+(k:Int)).toNat=k:=⋯;have ln:=qk8 (YA cs) ec hc hk;rw [← ek] at ln;have l7:(Txt.join (Str.ofString "") (cs.map fun c=>(⟨#[c]⟩:Str))).length=7:=by
    have z:=congrArg List.length (YA cs);rw [Bn,ec] at z;exact z
   refine ⟨Str.ofString "",D,cs.map fun c=>(⟨#[c]⟩:Str),rfl,rfl,SqL.of upd_same,?_,_,rfl,_,rfl,.inr (.inr ⟨abc,_,_,rfl,rfl,∅,qfw ⋯ ⋯,.inr (.inl ⟨_,_,rfl,rfl,?_,g.trans (qh hD _),xs++[Txt.join (Str.ofString "") (cs.map fun c=>(⟨#[c]⟩:Str))++⟨#[97+(0+(k:Int)).toNat]⟩],?_,?_,?_⟩)⟩)⟩
   ·rw [qef,ec,Ah,ec];decide+kernel
   ·rw [l7];exact (O0:8≤Af)
   ·rw [A1];rfl
   ·rw [Ak,ex];rfl
   ·intro j x e;rcases Nat.lt_or_ge j xs.length with h | h
    ·rw [List.getElem?_append_left h] at e;exact hx j x e
    ·rw [List.getElem?_append_right h] at e;have hj:j=k:=by
      rcases Nat.lt_or_ge (j - xs.length) 1 with h' | h'
      ·omega
      ·rw [List.getElem?_eq_none h'] at e;cases e
     subst hj;rw [ex,Nat.sub_self] at e;cases e;rw [ek] at ln ⊢;exact ln
 ·obtain ⟨g,xs,rfl,ex,hx⟩:=hh;refine ⟨Ax _,fun D hD=>?_⟩;obtain ⟨a0,a1,a2,a3,rfl⟩:∃ a b c d:Str,xs=[a,b,c,d]:=by
   match xs,ex with
   | [a,b,c,d],_=>exact ⟨a,b,c,d,rfl⟩
  have n0:=hx 0 a0 rfl;have n1:=hx 1 a1 rfl;have n2:=hx 2 a2 rfl;have n3:=hx 3 a3 rfl;have an:=qel n0 n1 n2 n3;refine qp g hD fun H0 g0 s0 m0 e0=>?_;refine ⟨D,_,rfl,.inl ⟨SqL.of e0,fun p1 hp1=>?_⟩⟩;refine qp g0 hp1 fun H1 g1 s1 m1 e1=>h2 _ _ ?_;clear h1 h2;have rN:Rep K H1 (.ref p1) (.tuple [.str a0,.str a1,.str a2,.str a3]):=jV e1 (.cons (.str _) (.cons (.str _) (.cons (.str _) (.cons (.str _) .nil))));refine qv fun D3 h3 r3=>⟨_,rfl,(O0:0≤Af),fun p2 hp2=>?_⟩;refine qp g1 hp2 fun H2 g2 s2 m2 e2=>?_;refine ⟨(O0:3≤Af),fun p3 hp3=>?_⟩;refine qp g2 hp3 fun H3 g3 s3 m3 e3=>?_;have rF:Rep K H3 (.ref p3) (dF [.str a0,.str a1,.str a2,.str a3]):=jV e3 (.cons (.str _) (.cons (rN.same (s2.trans s3)) (.cons (jV (s3 _ _ e2) .nil) .nil)));refine ⟨(O0:2≤Af),fun p4 hp4=>?_⟩;refine qp g3 hp4 fun H4 g4 s4 m4 e4=>?_;have rD:Rep K H4 (.ref p4) (dD [.str a0,.str a1,.str a2,.str a3]):=jV e4 (.cons (.str _) (.cons (rF.same s4) .nil));refine ⟨(O0:1≤Af),fun p5 hp5=>?_⟩;refine qp g4 hp5 fun H5 g5 s5 m5 e5=>?_;refine ⟨p5,12,_,rfl,rfl,SqT.of e5,Ef _ _,O0,O0,(O0:1≤100),fun p6 hp6=>?_⟩;refine qp g5 hp6 fun H6 g6 s6 m6 e6=>h3 _ _ ?_;have e6':H6 p6=some (.tup (List.replicate 12 (V.ref p4))):=e6;have rB:Rep K H6 (.ref p6) (.tuple (List.replicate 12 (dD [.str a0,.str a1,.str a2,.str a3]))):=jV e6' (WV (rD.same (s5.trans s6)) 12);clear h3;refine qv fun D4 h4 r4=>⟨(O0:0≤Af),fun p7 hp7=>?_⟩;refine qp g6 hp7 fun H7 g7 s7 m7 e7=>?_;refine ⟨(O0:2≤Af),fun p8 hp8=>?_⟩;refine qp g7 hp8 fun H8 g8 s8 m8 e8=>?_;refine ⟨_,rfl,(O0:0≤Af),fun p9 hp9=>?_⟩;refine qp g8 hp9 fun H9 g9 s9 m9 e9=>?_;refine ⟨(O0:4≤Af),fun pa hpa=>?_⟩;refine qp g9 hpa fun Ha ga sa ma ea=>?_;have rI:Rep K Ha (.ref pa) (dI [.str a0,.str a1,.str a2,.str a3]):=jV ea (.cons (.str _) (.cons (jV (sa _ _ (s9 _ _ e8)) (.cons (.str _) (.cons (.int _) .nil))) (.cons (rB.same (((s7.trans s8).trans s9).trans sa)) (.cons (jV (sa _ _ e9) .nil) .nil))));refine ⟨(O0:1≤Af),fun pb hpb=>?_⟩;refine qp ga hpb fun Hb gb sb mb eb=>?_;refine ⟨pb,11,_,rfl,rfl,SqT.of eb,Ef _ _,O0,O0,(O0:1≤100),fun pc hpc=>?_⟩;refine qp gb hpc fun Hc gc sc mc ec=>?_;have ec':Hc pc=some (.tup (List.replicate 11 (V.ref pa))):=ec;refine ⟨(O0:3≤Af),fun pd hpd=>?_⟩;refine qp gc hpd fun Hd gd sd md ed=>h4 _ _ ?_;clear h4;have rP:Rep K Hd (.ref pd) (dM [.str a0,.str a1,.str a2,.str a3]):=jV ed (.cons (.str _) (.cons (jV (sd _ _ (sc _ _ (sb _ _ (sa _ _ (s9 _ _ (s8 _ _ e7)))))) .nil) (.cons ((jV ec' (WV (rI.same (sb.trans sc)) 11)).same sd) .nil)));obtain ⟨t,ht,pP⟩:=qli an;have ht1:t≤20:=⋯;have fP:Tre.fit (dM [.str a0,.str a1,.str a2,.str a3])=true:=qju (zA fun y hy=>by
   simp only [Ap,A2,or_false] at hy;rcases hy with rfl | rfl | rfl | rfl
   ·exact j7 _ (by rw [n0.len];decide)
   ·exact j7 _ (by rw [n1.len];decide)
   ·exact j7 _ (by rw [n2.len];decide)
   ·exact j7 _ (by rw [n3.len];decide))
  have nm:Sho.Nams []:=⟨O0,fun x hx=>by cases hx⟩
  have row:Sho.Row 19 (List.replicate 11 (dI [.str a0,.str a1,.str a2,.str a3])):=⟨fun z hz=>by
   rw [List.eq_of_mem_replicate hz];obtain ⟨t,h,p⟩:=qid an false;exact ⟨false,26,t,p,O0,⋯⟩,(O0:11≤12)⟩
  have big:=qlj n0 n1 n2 n3;have wlP:=qlh n0 n1 n2 n3;have lw:=Aw (Sho.len_wl (Sho.wP 20 (dM [.str a0,.str a1,.str a2,.str a3]))) wlP;refine qv fun D5 h5 r5=>⟨_,rfl,_,"main",[],_,rfl,rP,nm,row,by rw [← zC];exact Aw lw O0,fun He p4 ge ne ee=>?_⟩
  rw [← zC] at ee;refine ⟨p4,_,SqL.of ee,Aw lw O0,Aw wlP O0,.inl ⟨rfl,fun Hf gf=>h5 _ _ ?_⟩⟩;clear h5;have gef:=ge.trans gf;have tl:=Sho.tx_le wlP;have nt:JF (Sho.tx (Sho.wP 20 (dM [.str a0,.str a1,.str a2,.str a3])))=false:=by
   unfold JF;rw [Ar ⋯];rfl
  refine qv fun D6 h6 r6=>⟨_,rfl,_,_,rfl,⟨Aw tl O0,rfl⟩,_,_,rfl,rfl,_,rfl,zh (Ar fun z=>absurd (Int.ofNat_le.mp z) (Nat.not_le.mpr big)) ⟨_,rfl,_,_,_,_,rfl,rP.same gef,fP,Tre.Js pP ht1 O0,pP.tr,O0,ht1,fun Hg gg=>⟨_,rfl,rfl,_,rfl,zh ?_ (h6 _ _ ?_)⟩⟩⟩
  ·rw [An rfl];rfl
  clear h6;refine qv fun D7 h7 r7=>⟨_,rfl,_,rfl,Aw tl O0,.inr ⟨nt,fun Hh gh=>⟨_,rfl,c.e1,r7 _ _ (q _ (gd.trans ((gef.trans gg).trans gh)))⟩⟩⟩
inductive spLaw (K:Frag) (vs:List V) (H:Hp) (Q:VK) (E':XK):Prop
 | mk:∀ (a:Ac) (ns:List Int),(vs=[.ref a])→(SqL K H a (ns.map V.int))→(ns.length≤63)→(∀ H',Q (.bl true) H')→spLaw K vs H Q E'
theorem qjc (F:Fun K "law" "law" WR f fd) (c:Cs K mg ad) (d_law_cell_at:Def P w K mg base 1 "_law_cell_at" ["_law_script","_law_k"] (spCell K)) (d_law_deep_right:Def P w K mg base 83 "_law_deep_right" ["_law_cell"] spTrue) (d_law_long_right:Def P w K mg base 83 "_law_long_right" ["_law_cell"] spTrue) (d_law_program:Def P w K mg base 34 "_law_program" ["_law_script","_law_most"] (spProg K))
  (d_law_function_words:Def P w K mg base 82 "_law_function_words" ["_law_part"] (spLF K 19)) (d_law_text:Def P w K mg base 3 "_law_text" ["_law_words_here","_law_state"] (spTx K)) (d_shown:Def P w K mg base 82 "shown" ["program"] (spShown K)) (d_read:DefX P w K mg base 6 "read" ["text"] (spRead K ad.BadText)):FnOk P w K mg base CX0 84 f fd ["_law_script"] (spLaw K):=by
 refine F.ok (k:=83) Vk (fun vs H Q E h=>?_) (fun cdv A outer s H vs Q E hr h=>?_)
 ·obtain ⟨a,ns,rfl,_⟩:=h;rfl
 obtain ⟨a,ns,rfl,hS,_,q⟩:=h;have hu64:=hr.units;refine ⟨_,(qc (qD (jd (zt (pdf d_law_deep_right (qa (pdf d_law_cell_at (qa (pv 0) (qa qd qb))) qb)))) (qf (qr zW)) qt)
   (qc (qD (PW.pt (Vq (qq qT (qo qP (pdf d_law_cell_at (qa (pv 0) (qa qd qb))) qd) qd (qw _)) (ve (jd (zt (pdf d_law_long_right (qa (pdf d_law_cell_at (qa (pv 0) (qa qd qb))) qb))))))) (qf (qr zW)) qt)
   (qc (pst 1 Vk.nd (pdf d_law_program (qa (pv 0) (qa qd qb))))
   (qc (pst 2 Vk.nd (pdf d_law_function_words (qa (pv 1) qb)))
   (qc (pst 3 Vk.nd (pdf d_law_text (qa (pv 2) (qa W0 qb))))
   (qc (qD (qq Yz (qz (zN (K:=K) rfl) (by rfl) c.len_ ze (qa (pv 3) qb)) qd (qw _)) (qf (qr zW)) qt)
   (qc (pst 4 Vk.nd (pdf d_law_text (qa (pv 2) (qa (qai (JV qg (pv 0) (JV qg qd qaf)) rfl rfl (by intro z;cases z) O0) qb))))
   (qc (pst 5 Vk.nd (pdf d_shown (qa (pv 1) qb)))
   (qc (qD (PW.pt (Jc (jd (zt (qz (vi (K:=K) rfl) (by rfl) c.isinstance_ zg (qa (pv 5) (qa (VL c.str_ vU) qb))))) (Jc (qq VO (pv 5) (pv 3) (qw _)) (jL (qq VO (pdf d_shown (qa (pv 1) qb)) (pv 3) (qw _)))))) (qf (qr zW)) qt)
   (qc (JO C3 rfl (WY (K:=K) rfl (qB (qa (pv 3) (qa (pv 4) (qa (pv 3) qb))))) (pgn 6 Vk.nd) (qf (qD (PW.pt (Jc (qq (qk4 (K:=K) rfl hu64) (VN d_read (hr.mono (by first | decide | omega)) qed (qa (pv 6) qb)) (pv 1) (qw _)) (jL (qq VO (pdf d_shown (qa (VN d_read (hr.mono (by first | decide | omega)) qed (qa (pv 6) qb)) qb)) (pv 3) (qw _))))) (qf (qr zW)) qt)))
   (qf (qr zW)))))))))))),?_⟩
 clear hu64;refine qv fun D2 h2 r2=>qZ fun B b1 b2=>⟨_,rfl,a,ns,5,rfl,hS,O0,fun cell=>⟨cell,rfl,fun H1 g1=>⟨_,rfl,b2 _ (h2 _ _ ?_)⟩⟩⟩;refine qv fun D3 h3 r3=>qZ fun B b1 b2=>⟨_,rfl,a,ns,4,rfl,g1.seq hS,O0,fun cell4=>⟨_,_,rfl,rfl,(show (0:Int)<16 from O0),rfl,_,rfl,?_⟩⟩;have rest:∀ H2,qy H H2→B false H2:=fun H2 g2=>b2 _ (h3 _ _ ?_)
 ·refine w6 (fun _=>⟨_,rfl,a,ns,5,rfl,g1.seq hS,O0,fun cell=>⟨cell,rfl,fun H2 g2=>⟨_,rfl,rest _ (g1.trans g2)⟩⟩⟩) (fun _=>rest _ g1)
 refine qv fun D4 h4 r4=>⟨_,rfl,a,ns,40,O0,O0,rfl,g2.seq hS,fun H3 x d s t names g3 r3 _ ft pt hs ht=>h4 _ _ ?_⟩;obtain ⟨ps,as,rfl,nm,row⟩:=qb3 pt hs ⋯;have ht20:t≤20:=⋯;have lw:=Sho.len_wl (Sho.wP 20 (.tuple [.str "main",.tuple ps,.tuple as]));have wp:=Sho.wl_part 20 pt.tr ht20;have wd:=Sho.wd_part 20 pt.tr ht20;refine qv fun D5 h5 r5=>⟨_,rfl,x,"main",ps,as,rfl,r3,nm,row,by rw [← zC];omega,fun H4 p4 g4 n4 e4=>h5 _ _ ?_⟩
 rw [← zC] at e4;refine qv fun D6 h6 r6=>⟨_,rfl,p4,_,SqL.of e4,⋯,⋯,.inl ⟨rfl,fun H5 g5=>h6 _ _ ?_⟩⟩;generalize eD:Sho.tx (Sho.wP 20 (.tuple [.str "main",.tuple ps,.tuple as]))=due;have ld:due.length≤700000:=by
  rw [← eD];exact Sho.tx_le ⋯
 refine qv fun D7 h7 r7=>qZ fun B b1 b2=>⟨_,rfl,_,_,rfl,⟨line ⋯,rfl⟩,_,_,rfl,rfl,_,rfl,?_⟩
 by_cases big:2000<due.length
 ·exact bP (An ⋯) (b1 _ (r7 _ _ (q H5)))
 refine bN (Ar ⋯) (b2 _ (h7 _ _ ?_));have g25:qy H H5:=((g2.trans g3).trans g4).trans g5;refine qv fun D8 h8 r8=>⟨_,rfl,fun ds hds=>⟨_,rfl,upd_same,[(Sum.inr "cells",.ref a),(Sum.inr "at",.int 7)],rfl,(O0:2≤15),?_⟩⟩;rw [qge];have nds:H5 ds=none:=hds;have g6:qy H5 (upd (upd H5 ds (.dK [])) ds (.dK (JD a 7))):=fun b u e=>by
  rw [qu (qC e nds),qu (qC e nds)];exact e
 have e6:upd (upd H5 ds (.dK [])) ds (.dK (JD a 7)) ds=some (.dK (JD a 7)):=upd_same;generalize upd (upd H5 ds (.dK [])) ds (.dK (JD a 7))=H6 at g6 e6 ⊢;refine ⟨p4,_,SqL.of ((g5.trans g6) _ _ e4),⋯,⋯,.inr ⟨ds,a,7,ns,rfl,e6,(g25.trans g6).seq hS,O0,O0,fun x hx=>(wd x hx).ok,fun H7 T st mx lT=>h8 _ _ ?_⟩⟩;have cost:=Sho.main_cost nm row;rw [← zC,eD] at cost;have lT6:T.length≤6000:=⋯;have r7':Rep K H7 x (.tuple [.str "main",.tuple ps,.tuple as]):=Rep.stay st (r3.same ((g4.trans g5).trans g6));have ip:=Tre.Js pt ht20 hs;obtain ⟨shp,ev⟩:=wE pt.tr ht20;have gd1:=XF pt hs ht20 ft.fit (Sho.mixed_tx _ _ rfl) (by rw [eD];omega)
 rw [eD] at gd1;have gd2:=XF pt hs ht20 ft.fit mx lT6;refine qv fun D9 h9 r9=>⟨_,rfl,_,_,s,t,rfl,r7',ft.fit,ip,pt.tr,hs,ht20,fun H8 g8=>?_⟩;rw [eD];refine h9 _ _ ?_;refine qv fun Da ha ra=>qZ fun B b1 b2=>⟨_,rfl,_,.str due,"str",rfl,.str _,O0,_,rfl,w4 ?_⟩;refine ⟨_,rfl,_,rfl,rfl,_,rfl,zh (by rw [An rfl];rfl) ?_⟩
 refine ⟨_,rfl,_,_,s,t,rfl,(r7'.same g8),ft.fit,ip,pt.tr,hs,ht20,fun H9 g9=>?_⟩;rw [eD];refine ⟨_,rfl,rfl,_,rfl,bN (by rw [An rfl];rfl) (b2 _ (ha _ _ ?_))⟩
 have r9':=r7'.same (g8.trans g9);refine qv fun Db hb rb=>⟨_,rfl,_,rfl,_,rfl,(O0:3≤Af),fun pt3 hpt3=>?_⟩;refine qp (qy.refl H9) hpt3 fun Hc gc sc nc ec=>?_;refine .inr (.inl ⟨pt3,rfl,⟨_,SqT.of ec⟩,?_⟩);have rs3:Reps K H9 [.str due,.str T,.str due] [.str due,.str T,.str due]:= .cons (.str _) (.cons (.str _) (.cons (.str _) .nil));refine qe8 rs3 (fun i σ H'=>∃ o6,σ=[some (.ref a),some x,some (.ref p4),some (.str due),some (.str T),some (.str due),o6]∧qy Hc H') ?_ (fun i σ H' h=>?_) (fun i σ Hd v d hi he rd h D' hn hr'=>?_) (fun σ Hd h=>?_)
 ·exact ⟨none,rfl,qy.refl _⟩
 ·obtain ⟨o6,rfl,gd⟩:=h;exact gd.sqT (SqT.of ec)
 ·obtain ⟨o6,rfl,gdd⟩:=h;have good:∃ y,d= .str y∧Good y (.tuple [.str "main",.tuple ps,.tuple as])∧y.length≤100000:=by
   match i,hi,he with
   | 0,_,he=>cases he;exact ⟨_,rfl,gd1,⋯⟩
   | 1,_,he=>cases he;exact ⟨_,rfl,gd2,⋯⟩
   | 2,_,he=>cases he;exact ⟨_,rfl,gd1,⋯⟩
  obtain ⟨y,rfl,gdy,hy⟩:=good;cases rd.strI;have rP:=r9'.same (gc.trans gdd);refine qZ fun B b1 b2=>⟨_,rfl,_,rfl,hy,.inl ⟨_,gdy,fun He v ge rv=>⟨_,rfl,_,_,rv,rP.same ge,shp,shp,_,rfl,zh (by rw [ev];rfl) ?_⟩⟩⟩
  refine ⟨_,rfl,_,rfl,hy,.inl ⟨_,gdy,fun Hf v gf rv=>⟨_,_,s,t,rfl,rv,ft.fit,ip,pt.tr,hs,ht20,fun Hg gg=>?_⟩⟩⟩;rw [eD];exact ⟨_,rfl,rfl,_,rfl,bN (by rw [An rfl];rfl) (b2 _ (hn _ _ ⟨_,rfl,((gdd.trans ge).trans gf).trans gg⟩))⟩
 ·obtain ⟨o6,rfl,gdd⟩:=h;exact hb _ _ (q Hd)
end
end Mine
set_option tactic.hygienic true
namespace Mine
open PySem L2
theorem qj4 {l:PySem.W.OpenLaw} {w:World} {K:Frag} {h:Heap} {mg:Str→Option Ab} {fa f0 f1 f2 f3 f4 f5 f6 f7 f8 f9 f10 f11 f12 f13 f14 f15 f16 f17 f18 f19 f20 f21 f22 f23 f24 f25 f26 f27 f28 f29 f30 f31 f32 f33 f34 f35 f36 f37 f38 f39 f40 f41 f42:Ac} (X:K.In h) (G:h.Ns Aq mg) (hfa:mg "law"=some (.ref fa))
  {c_LoomError c_BadTree c_BadText c_Opening:Ac}
  {a_SIGNS:Ac} {n_SIGNS:Nat} {k_SIGNS_0 k_SIGNS_1 k_SIGNS_2 k_SIGNS_3 k_SIGNS_4:Tok} {a_FORMS:Ac} {n_FORMS:Nat} {k_FORMS_0 k_FORMS_1 k_FORMS_2 k_FORMS_3 k_FORMS_4 k_FORMS_5 k_FORMS_6 k_FORMS_7 k_FORMS_8 k_FORMS_9 k_FORMS_10 k_FORMS_11 k_FORMS_12 k_FORMS_13 k_FORMS_14 k_FORMS_15 k_FORMS_16:Tok} {a_FORMS0:Ac} {n_FORMS0:Nat} {k_FORMS0_0 k_FORMS0_1:Tok} {a_FORMS1:Ac} {n_FORMS1:Nat} {k_FORMS1_0:Tok} {a_FORMS2:Ac} {n_FORMS2:Nat} {k_FORMS2_0:Tok} {a_FORMS3:Ac} {n_FORMS3:Nat} {k_FORMS3_0 k_FORMS3_1 k_FORMS3_2:Tok} {a_FORMS4:Ac} {n_FORMS4:Nat} {k_FORMS4_0 k_FORMS4_1:Tok} {a_FORMS5:Ac} {n_FORMS5:Nat} {k_FORMS5_0 k_FORMS5_1:Tok} {a_FORMS6:Ac} {n_FORMS6:Nat} {k_FORMS6_0 k_FORMS6_1:Tok} {a_FORMS7:Ac} {n_FORMS7:Nat} {k_FORMS7_0 k_FORMS7_1:Tok} {a_FORMS8:Ac} {n_FORMS8:Nat} {k_FORMS8_0 k_FORMS8_1:Tok} {a_FORMS9:Ac} {n_FORMS9:Nat} {k_FORMS9_0 k_FORMS9_1:Tok} {a_FORMS10:Ac} {n_FORMS10:Nat} {k_FORMS10_0:Tok} {a_FORMS11:Ac} {n_FORMS11:Nat} {k_FORMS11_0 k_FORMS11_1 k_FORMS11_2:Tok} {a_FORMS12:Ac} {n_FORMS12:Nat} {k_FORMS12_0 k_FORMS12_1:Tok} {a_FORMS13:Ac} {n_FORMS13:Nat} {k_FORMS13_0:Tok} {a_FORMS14:Ac} {n_FORMS14:Nat} {k_FORMS14_0:Tok} {a_FORMS15:Ac} {n_FORMS15:Nat} {k_FORMS15_0 k_FORMS15_1:Tok} {a_FORMS16:Ac} {n_FORMS16:Nat} {k_FORMS16_0 k_FORMS16_1 k_FORMS16_2 k_FORMS16_3 k_FORMS16_4:Tok} {a_HEADS:Ac} {n_HEADS:Nat} {k_HEADS_0 k_HEADS_1 k_HEADS_2:Tok} {a_HEADS0:Ac} {n_HEADS0:Nat} {k_HEADS0_0:Tok} {a_HEADS1:Ac} {n_HEADS1:Nat} {k_HEADS1_0 k_HEADS1_1 k_HEADS1_2 k_HEADS1_3 k_HEADS1_4 k_HEADS1_5 k_HEADS1_6:Tok} {a_HEADS2:Ac} {n_HEADS2:Nat} {k_HEADS2_0 k_HEADS2_1 k_HEADS2_2 k_HEADS2_3 k_HEADS2_4 k_HEADS2_5 k_HEADS2_6 k_HEADS2_7 k_HEADS2_8:Tok} {a_MEMBERS:Ac} {n_MEMBERS:Nat} {k_MEMBERS_0 k_MEMBERS_1 k_MEMBERS_2:Tok} {w_MEMBERS_0 w_MEMBERS_1 w_MEMBERS_2:Tok} {a_UNWRITTEN:Ac} {n_UNWRITTEN:Nat} {k_UNWRITTEN_0 k_UNWRITTEN_1 k_UNWRITTEN_2:Tok} {a_OPEN_ENDED:Ac} {n_OPEN_ENDED:Nat} {k_OPEN_ENDED_0 k_OPEN_ENDED_1 k_OPEN_ENDED_2 k_OPEN_ENDED_3:Tok} {a_BRACKETED:Ac} {n_BRACKETED:Nat} {k_BRACKETED_0 k_BRACKETED_1 k_BRACKETED_2 k_BRACKETED_3 k_BRACKETED_4:Tok}
  {t_MOST_LETTERS t_GREATEST_NUMBER t_MOST_NAMES t_MOST_TERMS t_MOST_STATEMENTS t_MOST_DEPTH t_MOST_PARTS t_PERCENT t_MOST_SIGNS t_MOST_FIGURES:Tok}
  (a0:PySem.W.nsIn K Aq "is_name"=some (some (.ref f0))) (l0:FA K f0 "is_name" "is_name" v0)
  (a1:PySem.W.nsIn K Aq "is_number"=some (some (.ref f1))) (l1:FA K f1 "is_number" "is_number" vH)
  (a2:PySem.W.nsIn K Aq "is_row"=some (some (.ref f2))) (l2:FA K f2 "is_row" "is_row" WS)
  (a3:PySem.W.nsIn K Aq "are_names"=some (some (.ref f3))) (l3:FA K f3 "are_names" "are_names" JH)
  (a4:PySem.W.nsIn K Aq "has_shape"=some (some (.ref f4))) (l4:FA K f4 "has_shape" "has_shape" vI)
  (a5:PySem.W.nsIn K Aq "has_form"=some (some (.ref f5))) (l5:FA K f5 "has_form" "has_form" vc)
  (a6:PySem.W.nsIn K Aq "inner_with_shapes"=some (some (.ref f6))) (l6:FA K f6 "inner_with_shapes" "inner_with_shapes" zG)
  (a7:PySem.W.nsIn K Aq "hands_within"=some (some (.ref f7))) (l7:FA K f7 "hands_within" "hands_within" Jz)
  (a8:PySem.W.nsIn K Aq "is_program"=some (some (.ref f8))) (l8:FA K f8 "is_program" "is_program" Jr)
  (a9:PySem.W.nsIn K Aq "need_program"=some (some (.ref f9))) (l9:FA K f9 "need_program" "need_program" Jv)
  (a10:PySem.W.nsIn K Aq "is_text_sign"=some (some (.ref f10))) (l10:FA K f10 "is_text_sign" "is_text_sign" Jy)
  (a11:PySem.W.nsIn K Aq "is_text"=some (some (.ref f11))) (l11:FA K f11 "is_text" "is_text" vZ)
  (a12:PySem.W.nsIn K Aq "words_of"=some (some (.ref f12))) (l12:FA K f12 "words_of" "words_of" Vl)
  (a13:PySem.W.findIn K (.ref c_Opening) "__init__"=some (some (.ref f13))) (i13:PySem.W.isFn K (.ref f13)=true) (l13:FA K f13 "__init__" "Opening.__init__" WT)
  (a14:PySem.W.findIn K (.ref c_Opening) "wanted"=some (some (.ref f14))) (i14:PySem.W.isFn K (.ref f14)=true) (l14:FA K f14 "wanted" "Opening.wanted" Vo)
  (a15:PySem.W.findIn K (.ref c_Opening) "closed"=some (some (.ref f15))) (i15:PySem.W.isFn K (.ref f15)=true) (l15:FA K f15 "closed" "Opening.closed" Vp)
  (a16:PySem.W.nsIn K Aq "shape_behind"=some (some (.ref f16))) (l16:FA K f16 "shape_behind" "shape_behind" Ju)
  (a17:PySem.W.nsIn K Aq "is_head"=some (some (.ref f17))) (l17:FA K f17 "is_head" "is_head" V9)
  (a18:PySem.W.nsIn K Aq "is_numeral"=some (some (.ref f18))) (l18:FA K f18 "is_numeral" "is_numeral" vb)
  (a19:PySem.W.nsIn K Aq "term_of"=some (some (.ref f19))) (l19:FA K f19 "term_of" "term_of" V8)
  (a20:PySem.W.nsIn K Aq "thing_of"=some (some (.ref f20))) (l20:FA K f20 "thing_of" "thing_of" Vm)
  (a21:PySem.W.nsIn K Aq "take_word"=some (some (.ref f21))) (l21:FA K f21 "take_word" "take_word" vG)
  (a22:PySem.W.nsIn K Aq "read"=some (some (.ref f22))) (l22:FA K f22 "read" "read" Qm)
  (a23:PySem.W.nsIn K Aq "shown_thing"=some (some (.ref f23))) (l23:FA K f23 "shown_thing" "shown_thing" j6)
  (a24:PySem.W.nsIn K Aq "shown_members"=some (some (.ref f24))) (l24:FA K f24 "shown_members" "shown_members" zT)
  (a25:PySem.W.nsIn K Aq "shown_part"=some (some (.ref f25))) (l25:FA K f25 "shown_part" "shown_part" Jp)
  (a26:PySem.W.nsIn K Aq "shown"=some (some (.ref f26))) (l26:FA K f26 "shown" "shown" Xj)
  (a27:PySem.W.nsIn K Aq "_law_cell_at"=some (some (.ref f27))) (l27:FA K f27 "_law_cell_at" "_law_cell_at" JN)
  (a28:PySem.W.nsIn K Aq "_law_next"=some (some (.ref f28))) (l28:FA K f28 "_law_next" "_law_next" va)
  (a29:PySem.W.nsIn K Aq "_law_names"=some (some (.ref f29))) (l29:FA K f29 "_law_names" "_law_names" Jb)
  (a30:PySem.W.nsIn K Aq "_law_number"=some (some (.ref f30))) (l30:FA K f30 "_law_number" "_law_number" J9)
  (a31:PySem.W.nsIn K Aq "_law_term"=some (some (.ref f31))) (l31:FA K f31 "_law_term" "_law_term" Jw)
  (a32:PySem.W.nsIn K Aq "_law_body"=some (some (.ref f32))) (l32:FA K f32 "_law_body" "_law_body" Jx)
  (a33:PySem.W.nsIn K Aq "_law_statement"=some (some (.ref f33))) (l33:FA K f33 "_law_statement" "_law_statement" zU)
  (a34:PySem.W.nsIn K Aq "_law_program"=some (some (.ref f34))) (l34:FA K f34 "_law_program" "_law_program" JM)
  (a35:PySem.W.nsIn K Aq "_law_bodies"=some (some (.ref f35))) (l35:FA K f35 "_law_bodies" "_law_bodies" Jq)
  (a36:PySem.W.nsIn K Aq "_law_function_words"=some (some (.ref f36))) (l36:FA K f36 "_law_function_words" "_law_function_words" zx)
  (a37:PySem.W.nsIn K Aq "_law_term_words"=some (some (.ref f37))) (l37:FA K f37 "_law_term_words" "_law_term_words" jr)
  (a38:PySem.W.nsIn K Aq "_law_words"=some (some (.ref f38))) (l38:FA K f38 "_law_words" "_law_words" JG)
  (a39:PySem.W.nsIn K Aq "_law_text"=some (some (.ref f39))) (l39:FA K f39 "_law_text" "_law_text" Vn)
  (a40:PySem.W.nsIn K Aq "_law_long_right"=some (some (.ref f40))) (l40:FA K f40 "_law_long_right" "_law_long_right" jt)
  (a41:PySem.W.nsIn K Aq "_law_deep_right"=some (some (.ref f41))) (l41:FA K f41 "_law_deep_right" "_law_deep_right" jW)
  (a42:PySem.W.nsIn K Aq "law"=some (some (.ref f42))) (l42:FA K f42 "law" "law" WR)
  (z_all:PySem.W.nsIn K Aq "all"=some none)
  (z_isinstance:PySem.W.nsIn K Aq "isinstance"=some none)
  (z_str:PySem.W.nsIn K Aq "str"=some none)
  (z_len:PySem.W.nsIn K Aq "len"=some none)
  (z_bool:PySem.W.nsIn K Aq "bool"=some none)
  (z_int:PySem.W.nsIn K Aq "int"=some none)
  (z_tuple:PySem.W.nsIn K Aq "tuple"=some none)
  (z_set:PySem.W.nsIn K Aq "set"=some none)
  (z_zip:PySem.W.nsIn K Aq "zip"=some none)
  (z_ord:PySem.W.nsIn K Aq "ord"=some none)
  (z_max:PySem.W.nsIn K Aq "max"=some none)
  (z_range:PySem.W.nsIn K Aq "range"=some none)
  (z_list:PySem.W.nsIn K Aq "list"=some none)
  (g_MOST_LETTERS:PySem.W.nsIn K Aq "MOST_LETTERS"=some (some (.int 8 t_MOST_LETTERS)))
  (g_GREATEST_NUMBER:PySem.W.nsIn K Aq "GREATEST_NUMBER"=some (some (.int 1000000000000 t_GREATEST_NUMBER)))
  (g_MOST_NAMES:PySem.W.nsIn K Aq "MOST_NAMES"=some (some (.int 4 t_MOST_NAMES)))
  (g_MOST_TERMS:PySem.W.nsIn K Aq "MOST_TERMS"=some (some (.int 4 t_MOST_TERMS)))
  (g_MOST_STATEMENTS:PySem.W.nsIn K Aq "MOST_STATEMENTS"=some (some (.int 12 t_MOST_STATEMENTS)))
  (g_MOST_DEPTH:PySem.W.nsIn K Aq "MOST_DEPTH"=some (some (.int 20 t_MOST_DEPTH)))
  (g_MOST_PARTS:PySem.W.nsIn K Aq "MOST_PARTS"=some (some (.int 300 t_MOST_PARTS)))
  (g_PERCENT:PySem.W.nsIn K Aq "PERCENT"=some (some (.int 37 t_PERCENT)))
  (g_MOST_SIGNS:PySem.W.nsIn K Aq "MOST_SIGNS"=some (some (.int 6000 t_MOST_SIGNS)))
  (g_MOST_FIGURES:PySem.W.nsIn K Aq "MOST_FIGURES"=some (some (.int 13 t_MOST_FIGURES)))
  (n_LoomError:PySem.W.nsIn K Aq "LoomError"=some (some (.ref c_LoomError)))
  (n_BadTree:PySem.W.nsIn K Aq "BadTree"=some (some (.ref c_BadTree)))
  (n_BadText:PySem.W.nsIn K Aq "BadText"=some (some (.ref c_BadText)))
  (n_Opening:PySem.W.nsIn K Aq "Opening"=some (some (.ref c_Opening)))
  (x_own:PySem.W.excIn K c_BadText bmVE "ValueError.__new__"=true)
  (h_sm:(a_MEMBERS==sysModules)=false)
  (x_e1:PySem.W.exmOne K (.ref c_BadText) (.ref c_BadText)=some true)
  (h_pg:PySem.W.plainGet K c_Opening Str.empty=true)
  (h_hd:PySem.W.hasDictIn K c_Opening=true)
  (h_po:PySem.W.plainOver K c_Opening=true)
  (h_sa:PySem.W.findIn K (.ref c_Opening) "__setattr__"=some (some (.builtin "object.__setattr__")))
  (h_aS:PySem.W.findIn K (.ref c_Opening) "shape"=some none)
  (h_aT:PySem.W.findIn K (.ref c_Opening) "things"=some none)
  (h_mk:PySem.W.makesIn K c_Opening=true)
  (h_kc:PySem.W.keepIn K (.ref c_Opening)=true)
  (g_SIGNS:PySem.W.nsIn K Aq "SIGNS"=some (some (.ref a_SIGNS)))
  (l_SIGNS:K.lookup a_SIGNS=some {cls:= .type "tuple",data:= .seq ([.str "+" k_SIGNS_0,.str "-" k_SIGNS_1,.str "*" k_SIGNS_2,.str "<" k_SIGNS_3,.str "=" k_SIGNS_4]:List Ab).toArray n_SIGNS})
  (g_FORMS:PySem.W.nsIn K Aq "FORMS"=some (some (.ref a_FORMS)))
  (l_FORMS:K.lookup a_FORMS=some {cls:= .type "dict",data:= .dict ([⟨PyData.keyHash w.params "main",.str "main" k_FORMS_0,.ref a_FORMS0⟩,⟨PyData.keyHash w.params "number",.str "number" k_FORMS_1,.ref a_FORMS1⟩,⟨PyData.keyHash w.params "name",.str "name" k_FORMS_2,.ref a_FORMS2⟩,⟨PyData.keyHash w.params "two",.str "two" k_FORMS_3,.ref a_FORMS3⟩,⟨PyData.keyHash w.params "fun",.str "fun" k_FORMS_4,.ref a_FORMS4⟩,⟨PyData.keyHash w.params "loop",.str "loop" k_FORMS_5,.ref a_FORMS5⟩,⟨PyData.keyHash w.params "call",.str "call" k_FORMS_6,.ref a_FORMS6⟩,⟨PyData.keyHash w.params "step",.str "step" k_FORMS_7,.ref a_FORMS7⟩,⟨PyData.keyHash w.params "let",.str "let" k_FORMS_8,.ref a_FORMS8⟩,⟨PyData.keyHash w.params "set",.str "set" k_FORMS_9,.ref a_FORMS9⟩,⟨PyData.keyHash w.params "do",.str "do" k_FORMS_10,.ref a_FORMS10⟩,⟨PyData.keyHash w.params "if",.str "if" k_FORMS_11,.ref a_FORMS11⟩,⟨PyData.keyHash w.params "while",.str "while" k_FORMS_12,.ref a_FORMS12⟩,⟨PyData.keyHash w.params "hand",.str "hand" k_FORMS_13,.ref a_FORMS13⟩,⟨PyData.keyHash w.params "back",.str "back" k_FORMS_14,.ref a_FORMS14⟩,⟨PyData.keyHash w.params "fault",.str "fault" k_FORMS_15,.ref a_FORMS15⟩,⟨PyData.keyHash w.params "try",.str "try" k_FORMS_16,.ref a_FORMS16⟩]:List DictEntry).toArray n_FORMS})
  (l_FORMS0:K.lookup a_FORMS0=some {cls:= .type "tuple",data:= .seq ([.str "names" k_FORMS0_0,.str "body" k_FORMS0_1]:List Ab).toArray n_FORMS0})
  (l_FORMS1:K.lookup a_FORMS1=some {cls:= .type "tuple",data:= .seq ([.str "number" k_FORMS1_0]:List Ab).toArray n_FORMS1})
  (l_FORMS2:K.lookup a_FORMS2=some {cls:= .type "tuple",data:= .seq ([.str "name" k_FORMS2_0]:List Ab).toArray n_FORMS2})
  (l_FORMS3:K.lookup a_FORMS3=some {cls:= .type "tuple",data:= .seq ([.str "sign" k_FORMS3_0,.str "term" k_FORMS3_1,.str "term" k_FORMS3_2]:List Ab).toArray n_FORMS3})
  (l_FORMS4:K.lookup a_FORMS4=some {cls:= .type "tuple",data:= .seq ([.str "names" k_FORMS4_0,.str "body" k_FORMS4_1]:List Ab).toArray n_FORMS4})
  (l_FORMS5:K.lookup a_FORMS5=some {cls:= .type "tuple",data:= .seq ([.str "names" k_FORMS5_0,.str "body" k_FORMS5_1]:List Ab).toArray n_FORMS5})
  (l_FORMS6:K.lookup a_FORMS6=some {cls:= .type "tuple",data:= .seq ([.str "term" k_FORMS6_0,.str "terms" k_FORMS6_1]:List Ab).toArray n_FORMS6})
  (l_FORMS7:K.lookup a_FORMS7=some {cls:= .type "tuple",data:= .seq ([.str "term" k_FORMS7_0,.str "term" k_FORMS7_1]:List Ab).toArray n_FORMS7})
  (l_FORMS8:K.lookup a_FORMS8=some {cls:= .type "tuple",data:= .seq ([.str "name" k_FORMS8_0,.str "term" k_FORMS8_1]:List Ab).toArray n_FORMS8})
  (l_FORMS9:K.lookup a_FORMS9=some {cls:= .type "tuple",data:= .seq ([.str "name" k_FORMS9_0,.str "term" k_FORMS9_1]:List Ab).toArray n_FORMS9})
  (l_FORMS10:K.lookup a_FORMS10=some {cls:= .type "tuple",data:= .seq ([.str "term" k_FORMS10_0]:List Ab).toArray n_FORMS10})
  (l_FORMS11:K.lookup a_FORMS11=some {cls:= .type "tuple",data:= .seq ([.str "term" k_FORMS11_0,.str "body" k_FORMS11_1,.str "body" k_FORMS11_2]:List Ab).toArray n_FORMS11})
  (l_FORMS12:K.lookup a_FORMS12=some {cls:= .type "tuple",data:= .seq ([.str "term" k_FORMS12_0,.str "body" k_FORMS12_1]:List Ab).toArray n_FORMS12})
  (l_FORMS13:K.lookup a_FORMS13=some {cls:= .type "tuple",data:= .seq ([.str "term" k_FORMS13_0]:List Ab).toArray n_FORMS13})
  (l_FORMS14:K.lookup a_FORMS14=some {cls:= .type "tuple",data:= .seq ([.str "term" k_FORMS14_0]:List Ab).toArray n_FORMS14})
  (l_FORMS15:K.lookup a_FORMS15=some {cls:= .type "tuple",data:= .seq ([.str "word" k_FORMS15_0,.str "term" k_FORMS15_1]:List Ab).toArray n_FORMS15})
  (l_FORMS16:K.lookup a_FORMS16=some {cls:= .type "tuple",data:= .seq ([.str "body" k_FORMS16_0,.str "name" k_FORMS16_1,.str "name" k_FORMS16_2,.str "body" k_FORMS16_3,.str "body" k_FORMS16_4]:List Ab).toArray n_FORMS16})
  (g_HEADS:PySem.W.nsIn K Aq "HEADS"=some (some (.ref a_HEADS)))
  (l_HEADS:K.lookup a_HEADS=some {cls:= .type "dict",data:= .dict ([⟨PyData.keyHash w.params "program",.str "program" k_HEADS_0,.ref a_HEADS0⟩,⟨PyData.keyHash w.params "term",.str "term" k_HEADS_1,.ref a_HEADS1⟩,⟨PyData.keyHash w.params "statement",.str "statement" k_HEADS_2,.ref a_HEADS2⟩]:List DictEntry).toArray n_HEADS})
  (l_HEADS0:K.lookup a_HEADS0=some {cls:= .type "tuple",data:= .seq ([.str "main" k_HEADS0_0]:List Ab).toArray n_HEADS0})
  (l_HEADS1:K.lookup a_HEADS1=some {cls:= .type "tuple",data:= .seq ([.str "number" k_HEADS1_0,.str "name" k_HEADS1_1,.str "two" k_HEADS1_2,.str "fun" k_HEADS1_3,.str "loop" k_HEADS1_4,.str "call" k_HEADS1_5,.str "step" k_HEADS1_6]:List Ab).toArray n_HEADS1})
  (l_HEADS2:K.lookup a_HEADS2=some {cls:= .type "tuple",data:= .seq ([.str "let" k_HEADS2_0,.str "set" k_HEADS2_1,.str "do" k_HEADS2_2,.str "if" k_HEADS2_3,.str "while" k_HEADS2_4,.str "hand" k_HEADS2_5,.str "back" k_HEADS2_6,.str "fault" k_HEADS2_7,.str "try" k_HEADS2_8]:List Ab).toArray n_HEADS2})
  (g_MEMBERS:PySem.W.nsIn K Aq "MEMBERS"=some (some (.ref a_MEMBERS)))
  (l_MEMBERS:K.lookup a_MEMBERS=some {cls:= .type "dict",data:= .dict ([⟨PyData.keyHash w.params "names",.str "names" k_MEMBERS_0,.str "name" w_MEMBERS_0⟩,⟨PyData.keyHash w.params "terms",.str "terms" k_MEMBERS_1,.str "term" w_MEMBERS_1⟩,⟨PyData.keyHash w.params "body",.str "body" k_MEMBERS_2,.str "statement" w_MEMBERS_2⟩]:List DictEntry).toArray n_MEMBERS})
  (g_UNWRITTEN:PySem.W.nsIn K Aq "UNWRITTEN"=some (some (.ref a_UNWRITTEN)))
  (l_UNWRITTEN:K.lookup a_UNWRITTEN=some {cls:= .type "tuple",data:= .seq ([.str "number" k_UNWRITTEN_0,.str "name" k_UNWRITTEN_1,.str "two" k_UNWRITTEN_2]:List Ab).toArray n_UNWRITTEN})
  (g_OPEN_ENDED:PySem.W.nsIn K Aq "OPEN_ENDED"=some (some (.ref a_OPEN_ENDED)))
  (l_OPEN_ENDED:K.lookup a_OPEN_ENDED=some {cls:= .type "tuple",data:= .seq ([.str "main" k_OPEN_ENDED_0,.str "fun" k_OPEN_ENDED_1,.str "loop" k_OPEN_ENDED_2,.str "call" k_OPEN_ENDED_3]:List Ab).toArray n_OPEN_ENDED})
  (g_BRACKETED:PySem.W.nsIn K Aq "BRACKETED"=some (some (.ref a_BRACKETED)))
  (l_BRACKETED:K.lookup a_BRACKETED=some {cls:= .type "tuple",data:= .seq ([.str "program" k_BRACKETED_0,.str "term" k_BRACKETED_1,.str "statement" k_BRACKETED_2,.str "names" k_BRACKETED_3,.str "body" k_BRACKETED_4]:List Ab).toArray n_BRACKETED}):
  ∃ fd:FuncData,(∀ (s:Ae) (v:Ab),BindsTo s fd ⟨[v],[]⟩ [("_law_script",v)])∧∀ base:Heap,K.In base→base.Ns Aq mg→FnOk l.prog w K mg base CX0 84 fa fd ["_law_script"] (spLaw K):=by
 have e:=hfa.symm.trans (Ay X G a42);cases e;obtain ⟨_,kV42,dc42,pm42,an42,cd42,ct42,_,l42,c42,k42⟩:=l42;have c:Cs K mg ⟨c_LoomError,c_BadTree,c_BadText,c_Opening⟩:=⟨B6 X G z_all,B6 X G z_isinstance,B6 X G z_str,B6 X G z_len,B6 X G z_bool,B6 X G z_int,B6 X G z_tuple,B6 X G z_set,B6 X G z_zip,B6 X G z_ord,B6 X G z_max,B6 X G z_range,B6 X G z_list,⟨_,Ay X G g_MOST_LETTERS,⟨_,rfl⟩⟩,⟨_,Ay X G g_GREATEST_NUMBER,⟨_,rfl⟩⟩,⟨_,Ay X G g_MOST_NAMES,⟨_,rfl⟩⟩,⟨_,Ay X G g_MOST_TERMS,⟨_,rfl⟩⟩,⟨_,Ay X G g_MOST_STATEMENTS,⟨_,rfl⟩⟩,⟨_,Ay X G g_MOST_DEPTH,⟨_,rfl⟩⟩,⟨_,Ay X G g_MOST_PARTS,⟨_,rfl⟩⟩,⟨_,Ay X G g_PERCENT,⟨_,rfl⟩⟩,⟨_,Ay X G g_MOST_SIGNS,⟨_,rfl⟩⟩,⟨_,Ay X G g_MOST_FIGURES,⟨_,rfl⟩⟩,Ay X G n_LoomError,Ay X G n_BadTree,Ay X G n_BadText,Ay X G n_Opening,qf3 x_own,⟨_,Ay X G g_MEMBERS,h_sm⟩,x_e1,⟨h_pg,h_hd,h_po,h_sa⟩,h_aS,h_aT,h_mk,h_kc⟩;refine ⟨PySem.W.fnOf "law" "law" (j8 WR) (jh WR) (qj WR) .none kV42 dc42 pm42 an42 cd42 ct42,fun s v=> .of_eq rfl,fun base _ _=>?_⟩;have T:Tb l.prog w K mg:=⟨⟨_,Ay X G g_SIGNS,(zm (l:=["+","-","*","<","="]) l_SIGNS (.cons ⟨_,rfl⟩ (.cons ⟨_,rfl⟩ (.cons ⟨_,rfl⟩ (.cons ⟨_,rfl⟩ (.cons ⟨_,rfl⟩ .nil))))) (O0:(5:Nat)≤1000))⟩,⟨_,_,Ay X G g_FORMS,ye l_FORMS (.cons (.cons (.cons (.cons (.cons (.cons (.cons (.cons (.cons (.cons (.cons (.cons (.cons (.cons (.cons (.cons (.cons .nil))))))))))))))))) (show (["main","number","name","two","fun","loop","call","step","let","set","do","if","while","hand","back","fault","try"]:List Str).Nodup from ∅),(.cons (zm (l:=["names","body"]) l_FORMS0 (.cons ⟨_,rfl⟩ (.cons ⟨_,rfl⟩ .nil)) (O0:(2:Nat)≤1000)) (.cons (zm (l:=["number"]) l_FORMS1 (.cons ⟨_,rfl⟩ .nil) (O0:(1:Nat)≤1000)) (.cons (zm (l:=["name"]) l_FORMS2 (.cons ⟨_,rfl⟩ .nil) (O0:(1:Nat)≤1000)) (.cons (zm (l:=["sign","term","term"]) l_FORMS3 (.cons ⟨_,rfl⟩ (.cons ⟨_,rfl⟩ (.cons ⟨_,rfl⟩ .nil))) (O0:(3:Nat)≤1000)) (.cons (zm (l:=["names","body"]) l_FORMS4 (.cons ⟨_,rfl⟩ (.cons ⟨_,rfl⟩ .nil)) (O0:(2:Nat)≤1000)) (.cons (zm (l:=["names","body"]) l_FORMS5 (.cons ⟨_,rfl⟩ (.cons ⟨_,rfl⟩ .nil)) (O0:(2:Nat)≤1000)) (.cons (zm (l:=["term","terms"]) l_FORMS6 (.cons ⟨_,rfl⟩ (.cons ⟨_,rfl⟩ .nil)) (O0:(2:Nat)≤1000)) (.cons (zm (l:=["term","term"]) l_FORMS7 (.cons ⟨_,rfl⟩ (.cons ⟨_,rfl⟩ .nil)) (O0:(2:Nat)≤1000)) (.cons (zm (l:=["name","term"]) l_FORMS8 (.cons ⟨_,rfl⟩ (.cons ⟨_,rfl⟩ .nil)) (O0:(2:Nat)≤1000)) (.cons (zm (l:=["name","term"]) l_FORMS9 (.cons ⟨_,rfl⟩ (.cons ⟨_,rfl⟩ .nil)) (O0:(2:Nat)≤1000)) (.cons (zm (l:=["term"]) l_FORMS10 (.cons ⟨_,rfl⟩ .nil) (O0:(1:Nat)≤1000)) (.cons (zm (l:=["term","body","body"]) l_FORMS11 (.cons ⟨_,rfl⟩ (.cons ⟨_,rfl⟩ (.cons ⟨_,rfl⟩ .nil))) (O0:(3:Nat)≤1000)) (.cons (zm (l:=["term","body"]) l_FORMS12 (.cons ⟨_,rfl⟩ (.cons ⟨_,rfl⟩ .nil)) (O0:(2:Nat)≤1000)) (.cons (zm (l:=["term"]) l_FORMS13 (.cons ⟨_,rfl⟩ .nil) (O0:(1:Nat)≤1000)) (.cons (zm (l:=["term"]) l_FORMS14 (.cons ⟨_,rfl⟩ .nil) (O0:(1:Nat)≤1000)) (.cons (zm (l:=["word","term"]) l_FORMS15 (.cons ⟨_,rfl⟩ (.cons ⟨_,rfl⟩ .nil)) (O0:(2:Nat)≤1000)) (.cons (zm (l:=["body","name","name","body","body"]) l_FORMS16 (.cons ⟨_,rfl⟩ (.cons ⟨_,rfl⟩ (.cons ⟨_,rfl⟩ (.cons ⟨_,rfl⟩ (.cons ⟨_,rfl⟩ .nil))))) (O0:(5:Nat)≤1000)) .nil)))))))))))))))))⟩,⟨_,_,Ay X G g_HEADS,ye l_HEADS (.cons (.cons (.cons .nil))) (show (["program","term","statement"]:List Str).Nodup from ∅),(.cons (zm (l:=["main"]) l_HEADS0 (.cons ⟨_,rfl⟩ .nil) (O0:(1:Nat)≤1000)) (.cons (zm (l:=["number","name","two","fun","loop","call","step"]) l_HEADS1 (.cons ⟨_,rfl⟩ (.cons ⟨_,rfl⟩ (.cons ⟨_,rfl⟩ (.cons ⟨_,rfl⟩ (.cons ⟨_,rfl⟩ (.cons ⟨_,rfl⟩ (.cons ⟨_,rfl⟩ .nil))))))) (O0:(7:Nat)≤1000)) (.cons (zm (l:=["let","set","do","if","while","hand","back","fault","try"]) l_HEADS2 (.cons ⟨_,rfl⟩ (.cons ⟨_,rfl⟩ (.cons ⟨_,rfl⟩ (.cons ⟨_,rfl⟩ (.cons ⟨_,rfl⟩ (.cons ⟨_,rfl⟩ (.cons ⟨_,rfl⟩ (.cons ⟨_,rfl⟩ (.cons ⟨_,rfl⟩ .nil))))))))) (O0:(9:Nat)≤1000)) .nil)))⟩,⟨_,_,Ay X G g_MEMBERS,ye l_MEMBERS (.cons (.cons (.cons .nil))) (show (["names","terms","body"]:List Str).Nodup from ∅),(.cons (.cons (.cons .nil)))⟩⟩;have T2:Tb2 K mg:=⟨⟨_,Ay X G g_UNWRITTEN,(zm (l:=["number","name","two"]) l_UNWRITTEN (.cons ⟨_,rfl⟩ (.cons ⟨_,rfl⟩ (.cons ⟨_,rfl⟩ .nil))) (O0:(3:Nat)≤1000))⟩,⟨_,Ay X G g_OPEN_ENDED,(zm (l:=["main","fun","loop","call"]) l_OPEN_ENDED (.cons ⟨_,rfl⟩ (.cons ⟨_,rfl⟩ (.cons ⟨_,rfl⟩ (.cons ⟨_,rfl⟩ .nil)))) (O0:(4:Nat)≤1000))⟩,⟨_,Ay X G g_BRACKETED,(zm (l:=["program","term","statement","names","body"]) l_BRACKETED (.cons ⟨_,rfl⟩ (.cons ⟨_,rfl⟩ (.cons ⟨_,rfl⟩ (.cons ⟨_,rfl⟩ (.cons ⟨_,rfl⟩ .nil))))) (O0:(5:Nat)≤1000))⟩⟩;obtain ⟨_,F0,k0⟩:=l0.fn;have b0:=F0.b1 "thing" fun _ _ _ _ _ _ _=>rfl;have d_is_name:Def l.prog w K mg base _ "is_name" ["thing"] _:=⟨_,_,Qx (P:=l.prog) (w:=w) (base:=base) F0 c,b0,k0,Ay X G a0⟩;obtain ⟨_,F1,k1⟩:=l1.fn;have b1:=F1.b1 "thing" fun _ _ _ _ _ _ _=>rfl;have d_is_number:Def l.prog w K mg base _ "is_number" ["thing"] _:=⟨_,_,Xv (P:=l.prog) (w:=w) (base:=base) F1 c,b1,k1,Ay X G a1⟩;obtain ⟨_,F2,k2⟩:=l2.fn;have b2:=F2.b2 "thing" "most" fun _ _ _ _ _ _ _ _=>rfl;have d_is_row:Def l.prog w K mg base _ "is_row" ["thing","most"] _:=⟨_,_,qby (P:=l.prog) (w:=w) (base:=base) F2 c,b2,k2,Ay X G a2⟩;obtain ⟨_,F3,k3⟩:=l3.fn;have b3:=F3.b1 "thing" fun _ _ _ _ _ _ _=>rfl;have d_are_names:Def l.prog w K mg base _ "are_names" ["thing"] _:=⟨_,_,Xx (P:=l.prog) (w:=w) (base:=base) F3 c d_is_name d_is_row,b3,k3,Ay X G a3⟩;obtain ⟨_,F4,k4⟩:=l4.fn;have b4:=F4.b2 "thing" "shape" fun _ _ _ _ _ _ _ _=>rfl;have d_has_shape:Def l.prog w K mg base _ "has_shape" ["thing","shape"] _:=⟨_,_,Xw (P:=l.prog) (w:=w) (base:=base) F4 c T d_is_name d_is_number d_is_row d_are_names,b4,k4,Ay X G a4⟩;obtain ⟨_,F5,k5⟩:=l5.fn;have b5:=F5.b3 "thing" "shape" "hands" fun _ _ _ _ _ _ _ _ _=>rfl;have d_has_form:Def l.prog w K mg base _ "has_form" ["thing","shape","hands"] _:=⟨_,_,Zx (P:=l.prog) (w:=w) (base:=base) F5 c T d_has_shape,b5,k5,Ay X G a5⟩;obtain ⟨_,F6,k6⟩:=l6.fn;have b6:=F6.b1 "part" fun _ _ _ _ _ _ _=>rfl;have d_inner_with_shapes:Def l.prog w K mg base _ "inner_with_shapes" ["part"] _:=⟨_,_,vM (P:=l.prog) (w:=w) (base:=base) F6 c T,b6,k6,Ay X G a6⟩;obtain ⟨_,F7,k7⟩:=l7.fn;have b7:=F7.b2 "part" "hands" fun _ _ _ _ _ _ _ _=>rfl;have d_hands_within:Def l.prog w K mg base _ "hands_within" ["part","hands"] _:=⟨_,_,wY (P:=l.prog) (w:=w) (base:=base) F7 c,b7,k7,Ay X G a7⟩;obtain ⟨_,F8,k8⟩:=l8.fn;have b8:=F8.b1 "thing" fun _ _ _ _ _ _ _=>rfl;have d_is_program:Def l.prog w K mg base _ "is_program" ["thing"] _:=⟨_,_,yU (P:=l.prog) (w:=w) (base:=base) F8 c d_has_form d_hands_within d_inner_with_shapes,b8,k8,Ay X G a8⟩;obtain ⟨_,F9,k9⟩:=l9.fn;have b9:=F9.b1 "thing" fun _ _ _ _ _ _ _=>rfl;have d_need_program:Def l.prog w K mg base _ "need_program" ["thing"] _:=⟨_,_,wW (P:=l.prog) (w:=w) (base:=base) F9 c d_is_program,b9,k9,Ay X G a9⟩;obtain ⟨_,F10,k10⟩:=l10.fn;have b10:=F10.b1 "sign" fun _ _ _ _ _ _ _=>rfl;have d_is_text_sign:Def l.prog w K mg base _ "is_text_sign" ["sign"] _:=⟨_,_,wX (P:=l.prog) (w:=w) (base:=base) F10 c,b10,k10,Ay X G a10⟩;obtain ⟨_,F11,k11⟩:=l11.fn;have b11:=F11.b1 "thing" fun _ _ _ _ _ _ _=>rfl;have d_is_text:Def l.prog w K mg base _ "is_text" ["thing"] _:=⟨_,_,Qw (P:=l.prog) (w:=w) (base:=base) F11 c d_is_text_sign,b11,k11,Ay X G a11⟩;obtain ⟨_,F12,k12⟩:=l12.fn;have b12:=F12.b1 "text" fun _ _ _ _ _ _ _=>rfl;have d_words_of:DefX l.prog w K mg base _ "words_of" ["text"] _:=⟨_,_,Zt (P:=l.prog) (w:=w) (base:=base) F12 c d_is_text,b12,k12,Ay X G a12⟩;obtain ⟨_,F13,k13⟩:=l13.fn;have b13:=F13.b2 "self" "shape" fun _ _ _ _ _ _ _ _=>rfl;have d_Opening:MakeA l.prog w K mg base "Opening" c_Opening _ ["self","shape"] _:=⟨⟨_,_,qbz (P:=l.prog) (w:=w) (base:=base) F13 c,b13,⟨c.mkC,a13,i13,c.kc⟩⟩,c.m_Opening⟩;obtain ⟨_,F16,k16⟩:=l16.fn;have b16:=F16.b2 "head" "place" fun _ _ _ _ _ _ _ _=>rfl;have d_shape_behind:Def l.prog w K mg base _ "shape_behind" ["head","place"] _:=⟨_,_,wV (P:=l.prog) (w:=w) (base:=base) F16 c T T2,b16,k16,Ay X G a16⟩;obtain ⟨_,F14,k14⟩:=l14.fn;have b14:=F14.b1 "self" fun _ _ _ _ _ _ _=>rfl;have d_O_wanted:MethN l.prog w K mg base c_Opening _ "wanted" ["self"] _:=⟨⟨_,_,Zy (P:=l.prog) (w:=w) (base:=base) F14 c T d_shape_behind,b14,⟨a14,i14,k14⟩⟩,c.cl⟩;obtain ⟨_,F15,k15⟩:=l15.fn;have b15:=F15.b1 "self" fun _ _ _ _ _ _ _=>rfl;have d_O_closed:MethN l.prog w K mg base c_Opening _ "closed" ["self"] _:=⟨⟨_,_,Zz (P:=l.prog) (w:=w) (base:=base) F15 c T T2,b15,⟨a15,i15,k15⟩⟩,c.cl⟩;obtain ⟨_,F17,k17⟩:=l17.fn;have b17:=F17.b2 "word" "shape" fun _ _ _ _ _ _ _ _=>rfl;have d_is_head:Def l.prog w K mg base _ "is_head" ["word","shape"] _:=⟨_,_,Qy (P:=l.prog) (w:=w) (base:=base) F17 c T T2,b17,k17,Ay X G a17⟩;obtain ⟨_,F18,k18⟩:=l18.fn;have b18:=F18.b1 "word" fun _ _ _ _ _ _ _=>rfl;have d_is_numeral:Def l.prog w K mg base _ "is_numeral" ["word"] _:=⟨_,_,yV (P:=l.prog) (w:=w) (base:=base) F18 c,b18,k18,Ay X G a18⟩;obtain ⟨_,F19,k19⟩:=l19.fn;have b19:=F19.b1 "word" fun _ _ _ _ _ _ _=>rfl;have d_term_of:Def l.prog w K mg base _ "term_of" ["word"] _:=⟨_,_,Qv (P:=l.prog) (w:=w) (base:=base) F19 c d_is_name d_is_numeral,b19,k19,Ay X G a19⟩;obtain ⟨_,F20,k20⟩:=l20.fn;have b20:=F20.b2 "word" "opening" fun _ _ _ _ _ _ _ _=>rfl;have d_thing_of:Def l.prog w K mg base _ "thing_of" ["word","opening"] _:=⟨_,_,Zu (P:=l.prog) (w:=w) (base:=base) F20 c d_O_wanted d_is_head d_term_of,b20,k20,Ay X G a20⟩;obtain ⟨_,F21,k21⟩:=l21.fn;have b21:=F21.b2 "openings" "word" fun _ _ _ _ _ _ _ _=>rfl;have d_take_word:Def l.prog w K mg base _ "take_word" ["openings","word"] _:=⟨_,_,Xr (P:=l.prog) (w:=w) (base:=base) F21 c T2 d_Opening d_O_wanted d_O_closed d_thing_of,b21,k21,Ay X G a21⟩;obtain ⟨_,F22,k22⟩:=l22.fn;have b22:=F22.b1 "text" fun _ _ _ _ _ _ _=>rfl;have d_read:DefX l.prog w K mg base _ "read" ["text"] _:=⟨_,_,qg4 (P:=l.prog) (w:=w) (base:=base) F22 c d_Opening d_words_of d_take_word d_is_program,b22,k22,Ay X G a22⟩;obtain ⟨_,F23,k23⟩:=l23.fn;have b23:=F23.b2 "thing" "shape" fun _ _ _ _ _ _ _ _=>rfl;have kn_shown_thing:Known K mg "shown_thing" ["thing","shape"] f23 _:=⟨b23,k23,Ay X G a23⟩;have F_shown_thing:=F23;obtain ⟨_,F24,k24⟩:=l24.fn;have b24:=F24.b2 "things" "shape" fun _ _ _ _ _ _ _ _=>rfl;have kn_shown_members:Known K mg "shown_members" ["things","shape"] f24 _:=⟨b24,k24,Ay X G a24⟩;have F_shown_members:=F24;obtain ⟨_,F25,k25⟩:=l25.fn;have b25:=F25.b1 "part" fun _ _ _ _ _ _ _=>rfl;have kn_shown_part:Known K mg "shown_part" ["part"] f25 _:=⟨b25,k25,Ay X G a25⟩;have F_shown_part:=F25;have d_shown_part:=(qkf (P:=l.prog) (w:=w) (base:=base) F_shown_thing F_shown_members F_shown_part kn_shown_thing kn_shown_members kn_shown_part c T T2 20).1;obtain ⟨_,F26,k26⟩:=l26.fn;have b26:=F26.b1 "program" fun _ _ _ _ _ _ _=>rfl;have d_shown:Def l.prog w K mg base _ "shown" ["program"] _:=⟨_,_,qeh (P:=l.prog) (w:=w) (base:=base) F26 c d_need_program d_shown_part,b26,k26,Ay X G a26⟩;obtain ⟨_,F27,k27⟩:=l27.fn;have b27:=F27.b2 "_law_script" "_law_k" fun _ _ _ _ _ _ _ _=>rfl;have d_law_cell_at:Def l.prog w K mg base _ "_law_cell_at" ["_law_script","_law_k"] _:=⟨_,_,W6 (P:=l.prog) (w:=w) (base:=base) F27 c,b27,k27,Ay X G a27⟩;obtain ⟨_,F28,k28⟩:=l28.fn;have b28:=F28.b1 "_law_state" fun _ _ _ _ _ _ _=>rfl;have kn_law_next:Known K mg "_law_next" ["_law_state"] f28 _:=⟨b28,k28,Ay X G a28⟩;have F_law_next:=F28;have d_law_next:=kn_law_next.out (Zw (P:=l.prog) (w:=w) (base:=base) F_law_next c d_law_cell_at);have d_law_next2:=kn_law_next.out (Xt (P:=l.prog) (w:=w) (base:=base) F_law_next c d_law_cell_at);obtain ⟨_,F29,k29⟩:=l29.fn;have b29:=F29.b2 "_law_cell" "_law_many" fun _ _ _ _ _ _ _ _=>rfl;have d_law_names:Def l.prog w K mg base _ "_law_names" ["_law_cell","_law_many"] _:=⟨_,_,Xu (P:=l.prog) (w:=w) (base:=base) F29 c,b29,k29,Ay X G a29⟩;obtain ⟨_,F30,k30⟩:=l30.fn;have b30:=F30.b1 "_law_more" fun _ _ _ _ _ _ _=>rfl;have d_law_number:Def l.prog w K mg base _ "_law_number" ["_law_more"] _:=⟨_,_,yT (P:=l.prog) (w:=w) (base:=base) F30 c,b30,k30,Ay X G a30⟩;obtain ⟨_,F31,k31⟩:=l31.fn;have b31:=F31.b2 "_law_state" "_law_deep" fun _ _ _ _ _ _ _ _=>rfl;have kn_law_term:Known K mg "_law_term" ["_law_state","_law_deep"] f31 _:=⟨b31,k31,Ay X G a31⟩;have F_law_term:=F31;obtain ⟨_,F32,k32⟩:=l32.fn;have b32:=F32.b3 "_law_state" "_law_deep" "_law_may_hand" fun _ _ _ _ _ _ _ _ _=>rfl;have kn_law_body:Known K mg "_law_body" ["_law_state","_law_deep","_law_may_hand"] f32 _:=⟨b32,k32,Ay X G a32⟩;have F_law_body:=F32;obtain ⟨_,F33,k33⟩:=l33.fn;have b33:=F33.b3 "_law_state" "_law_deep" "_law_may_hand" fun _ _ _ _ _ _ _ _ _=>rfl;have kn_law_statement:Known K mg "_law_statement" ["_law_state","_law_deep","_law_may_hand"] f33 _:=⟨b33,k33,Ay X G a33⟩;have F_law_statement:=F33;have d_law_statement:=(drawn (P:=l.prog) (w:=w) (base:=base) F_law_term F_law_statement F_law_body kn_law_term kn_law_statement kn_law_body c d_law_next d_law_number 7).2.1;obtain ⟨_,F34,k34⟩:=l34.fn;have b34:=F34.b2 "_law_script" "_law_most" fun _ _ _ _ _ _ _ _=>rfl;have d_law_program:Def l.prog w K mg base _ "_law_program" ["_law_script","_law_most"] _:=⟨_,_,W5 (P:=l.prog) (w:=w) (base:=base) F34 c d_law_cell_at d_law_names d_law_next d_law_statement,b34,k34,Ay X G a34⟩;obtain ⟨_,F35,k35⟩:=l35.fn;have b35:=F35.b1 "_law_body_here" fun _ _ _ _ _ _ _=>rfl;have kn_law_bodies:Known K mg "_law_bodies" ["_law_body_here"] f35 _:=⟨b35,k35,Ay X G a35⟩;have F_law_bodies:=F35;obtain ⟨_,F36,k36⟩:=l36.fn;have b36:=F36.b1 "_law_part" fun _ _ _ _ _ _ _=>rfl;have kn_law_function_words:Known K mg "_law_function_words" ["_law_part"] f36 _:=⟨b36,k36,Ay X G a36⟩;have F_law_function_words:=F36;obtain ⟨_,F37,k37⟩:=l37.fn;have b37:=F37.b1 "_law_term_here" fun _ _ _ _ _ _ _=>rfl;have kn_law_term_words:Known K mg "_law_term_words" ["_law_term_here"] f37 _:=⟨b37,k37,Ay X G a37⟩;have F_law_term_words:=F37;obtain ⟨_,F38,k38⟩:=l38.fn;have b38:=F38.b1 "_law_one" fun _ _ _ _ _ _ _=>rfl;have kn_law_words:Known K mg "_law_words" ["_law_one"] f38 _:=⟨b38,k38,Ay X G a38⟩;have F_law_words:=F38;have d_law_function_words:=(Q4 (P:=l.prog) (w:=w) (base:=base) F_law_bodies F_law_function_words F_law_term_words F_law_words kn_law_bodies kn_law_function_words kn_law_term_words kn_law_words c 19).2.2;obtain ⟨_,F39,k39⟩:=l39.fn;have b39:=F39.b2 "_law_words_here" "_law_state" fun _ _ _ _ _ _ _ _=>rfl;have d_law_text:Def l.prog w K mg base _ "_law_text" ["_law_words_here","_law_state"] _:=⟨_,_,Zv (P:=l.prog) (w:=w) (base:=base) F39 c d_law_next2,b39,k39,Ay X G a39⟩;obtain ⟨_,F40,k40⟩:=l40.fn;have b40:=F40.b1 "_law_cell" fun _ _ _ _ _ _ _=>rfl;have d_law_long_right:Def l.prog w K mg base _ "_law_long_right" ["_law_cell"] _:=⟨_,_,VQ (P:=l.prog) (w:=w) (base:=base) F40 c d_law_function_words d_law_text d_shown d_read,b40,k40,Ay X G a40⟩;obtain ⟨_,F41,k41⟩:=l41.fn;have b41:=F41.b1 "_law_cell" fun _ _ _ _ _ _ _=>rfl;have d_law_deep_right:Def l.prog w K mg base _ "_law_deep_right" ["_law_cell"] _:=⟨_,_,VR (P:=l.prog) (w:=w) (base:=base) F41 c d_law_function_words d_law_text d_shown d_read,b41,k41,Ay X G a41⟩;have F42:=qe5 (st:=WR) l42 c42 k42;exact qjc F42 c d_law_cell_at d_law_deep_right d_law_long_right d_law_program d_law_function_words d_law_text d_shown d_read
theorem walk {l:PySem.W.OpenLaw} {q:Program} {loose:List Str} {XP:(Str→Option Ab)→Heap→Prop} {YP:World→Heap→Prop} {d:DefRec} {K:Params→Frag} (hn:l.most=some 63) (hdf:d.params.defaults=[])
  (hY:∀ (w:World) (h:Heap),YP w h→(K w.params).In h)
  (F:∀ (w:World) (mg:Str→Option Ab) (fa:Ac) (h:Heap),(K w.params).In h→h.Ns Aq mg→mg d.name=some (.ref fa)→
   ∃ fd:FuncData,(∀ (s:Ae) (u:Ab),BindsTo s fd ⟨[u],[]⟩ [("_law_script",u)])∧∀ base:Heap,(K w.params).In base→base.Ns Aq mg→FnOk l.prog w (K w.params) mg base CX0 84 fa fd ["_law_script"] (spLaw (K w.params))):
  PySem.W.WalkO q loose XP YP l.row.toRowW d [] (fun f vs=>PySem.call f vs):=
 L2.Wj (n:=63) (k:=84) (x:="_law_script") (CX:=fun _=>CX0) (sp:=fun w=>spLaw (K w.params)) hn O0 hdf ⟨rfl,O0,O0⟩ hY F (fun _ _ a ns hl _ hS=>⟨a,ns,rfl,hS,hl,fun _=>rfl⟩) fun _ _ _ _ _ z=>z
end Mine
set_option Elab.async true
namespace PySem.Challenge.cw_waitloom_k05_whole_shown_and_read_holds
theorem te5576045434453831320:True:=trivial
theorem te9776742959795002725:True:=trivial
theorem te4692247559367690987:True:=trivial
theorem te15468085514144602677:True:=trivial
theorem te958530908130734436:True:=trivial
theorem te10899358680494813758:True:=trivial
theorem te7118301744866812355:True:=trivial
theorem te14434384871216451853:True:=trivial
theorem te16772477588052679807:True:=trivial
theorem te1724938907462941308:True:=trivial
theorem te3067438282031732317:True:=trivial
theorem te15863244450671678917:True:=trivial
theorem te13501510567600109564:True:=trivial
theorem te7849248934700266549:True:=trivial
theorem te12484026576585246011:True:=trivial
theorem te14370382473488051960:True:=trivial
theorem te15293897281213889675:True:=trivial
theorem te10213869379146372020:True:=trivial
theorem te6523964145848631013:True:=trivial
theorem te10394380629086504854:True:=trivial
theorem te9783711675213722320:True:=trivial
theorem te4875551108530991541:True:=trivial
theorem te6156614318038195052:True:=trivial
theorem te5826965901323544601:True:=trivial
theorem te14556525832225718876:True:=trivial
theorem te14169669618855621214:True:=trivial
theorem te3380489577380471700:True:=trivial
theorem te16855897585568698359:True:=trivial
theorem te8121271907070735518:True:=trivial
theorem te14029699712325718717:True:=trivial
theorem te2893973774954789130:True:=trivial
theorem te4515338345016845247:True:=trivial
theorem te10681472571868739136:True:=trivial
theorem te9764898751755226353:True:=trivial
theorem te16927749401251790863:True:=trivial
theorem te12683175744571767514:True:=trivial
theorem te11862583267974237749:True:=trivial
theorem te5071566780987480928:True:=trivial
theorem te715497317477103810:True:=trivial
theorem te1985234811271348466:True:=trivial
theorem te4545028685525091162:True:=trivial
theorem te6650118138581891991:True:=trivial
theorem te9892789246716131339:True:=trivial
theorem te2473723399368696732:True:=trivial
theorem te961968757456533913:True:=trivial
theorem te11748115219330972829:True:=trivial
theorem te1043243525649183377:True:=trivial
theorem te11537824504204007116:True:=trivial
theorem te14882789503857980155:True:=trivial
theorem te15202462127734168836:True:=trivial
theorem te6468019934309566162:True:=trivial
theorem te1717119455686947936:True:=trivial
theorem te5779353732426087723:True:=trivial
theorem te988920151581923791:True:=trivial
theorem te8729686096139642966:True:=trivial
theorem te14913178830470211774:True:=trivial
theorem te7511425509686904810:True:=trivial
theorem te12658365003322514966:True:=trivial
theorem te10409681699495627059:True:=trivial
theorem te2276290595884235896:True:=trivial
theorem te6041795417513198706:True:=trivial
theorem te7816697092298953014:True:=trivial
theorem te4556402691202664195:True:=trivial
theorem te5383718057687042199:True:=trivial
theorem te3956307096731962116:True:=trivial
theorem te15299737107650515364:True:=trivial
theorem te4735716706514925010:True:=trivial
theorem te7182503959089583456:True:=trivial
theorem te10214771680464168941:True:=trivial
theorem te3995272170823461018:True:=trivial
theorem te5240719454026096675:True:=trivial
theorem te8719042360331570610:True:=trivial
theorem te3158350149826319580:True:=trivial
theorem te11716839645671570924:True:=trivial
theorem te1892928464928535321:True:=trivial
theorem te6197177949007804978:True:=trivial
theorem te2938613634461364224:True:=trivial
theorem te8712705560228882454:True:=trivial
theorem te5307625102871245694:True:=trivial
theorem te5472350425644940703:True:=trivial
theorem te704344033602658778:True:=trivial
theorem te4260418010966090433:True:=trivial
theorem te4243835773003161957:True:=trivial
theorem te8892999435652314459:True:=trivial
theorem te4255844074914089221:True:=trivial
theorem te8521273451371895933:True:=trivial
theorem te6496780282429150355:True:=trivial
theorem te9943849166291567644:True:=trivial
theorem te9660046101429151085:True:=trivial
theorem te12270683363079786232:True:=trivial
theorem te4847766724069340646:True:=trivial
theorem te8872683311352524660:True:=trivial
theorem te18336351349924066612:True:=trivial
theorem te5465100504564045454:True:=trivial
theorem te9771708766416075459:True:=trivial
theorem te8974134672781757334:True:=trivial
theorem te5284264103116098631:True:=trivial
theorem te14835696812647679442:True:=trivial
theorem te4696617384058038241:True:=trivial
theorem te9945789562806243267:True:=trivial
theorem te10873300302086338767:True:=trivial
theorem te12940399930134452498:True:=trivial
theorem te4259427119530297272:True:=trivial
theorem te12236903244250626306:True:=trivial
theorem te3799338322237872741:True:=trivial
theorem te953872730710165008:True:=trivial
theorem te9371671957575383525:True:=trivial
theorem te14741289678783013770:True:=trivial
theorem te13099671936534294383:True:=trivial
theorem te2030876734418122673:True:=trivial
theorem te1723434549794852578:True:=trivial
theorem te4945624276636556022:True:=trivial
theorem te6628778925428896311:True:=trivial
theorem te12987928259073076397:True:=trivial
theorem te13528442927383078334:True:=trivial
theorem te1182537955083060963:True:=trivial
theorem te9307731903769564716:True:=trivial
theorem te17689560343285898733:True:=trivial
theorem te2076733483219702090:True:=trivial
theorem te8659631490879731676:True:=trivial
theorem te18382177344224137614:True:=trivial
theorem te8600992098951817078:True:=trivial
theorem te18302438054347929316:True:=trivial
theorem te1431914584876295222:True:=trivial
theorem te9695282993465857264:True:=trivial
theorem te8120012277451785765:True:=trivial
theorem te1012196330879946759:True:=trivial
theorem te2637801606938436720:True:=trivial
theorem te7495798105502906604:True:=trivial
theorem te13120852059244768466:True:=trivial
theorem te8614207641017642374:True:=trivial
theorem te6759675257426857149:True:=trivial
theorem te16134724863622211423:True:=trivial
theorem te12359062225106520977:True:=trivial
theorem te2054587634626732361:True:=trivial
theorem te11435564442381295353:True:=trivial
theorem te18264342570422083091:True:=trivial
theorem te12844684348786510548:True:=trivial
theorem te16966326287490794731:True:=trivial
theorem te9297293192392781080:True:=trivial
theorem te10471443437539240308:True:=trivial
theorem te12781898041808147682:True:=trivial
theorem te18371483899968064994:True:=trivial
theorem te4690319978066596623:True:=trivial
theorem te12754334688478436643:True:=trivial
theorem te8148342714533575431:True:=trivial
theorem te7903327080492891691:True:=trivial
theorem te10770989756572422306:True:=trivial
theorem te4554181909076419604:True:=trivial
theorem te11159537248816294643:True:=trivial
theorem te14110351767196550531:True:=trivial
theorem te3418218038508106562:True:=trivial
theorem te1024551768664987058:True:=trivial
theorem te6305176025845021254:True:=trivial
theorem te416541720554174788:True:=trivial
theorem te429190815936645597:True:=trivial
theorem te15347913013964802679:True:=trivial
theorem te2829496039313403114:True:=trivial
theorem te7212786827967038407:True:=trivial
theorem te1476948969478754486:True:=trivial
theorem te13745238545470540623:True:=trivial
theorem te15629974054948141967:True:=trivial
theorem te3156296321920580738:True:=trivial
theorem te16642796899205199921:True:=trivial
theorem te12942774282431026532:True:=trivial
theorem te4530707801353455886:True:=trivial
theorem te1810799831354560716:True:=trivial
theorem te4444477305184884856:True:=trivial
theorem te4481029721512748382:True:=trivial
theorem te9861236474130160581:True:=trivial
theorem te7154585173435495669:True:=trivial
theorem te3801674663194030353:True:=trivial
theorem te17760309742912312616:True:=trivial
theorem te18225208277140513541:True:=trivial
theorem te13192911224206303140:True:=trivial
theorem te18162132235396437798:True:=trivial
theorem te15902866344934760319:True:=trivial
theorem te11293806134841838461:True:=trivial
theorem te18355059140557529205:True:=trivial
theorem te14113119759647088513:True:=trivial
theorem te10320693037035671488:True:=trivial
theorem te6139208800647182287:True:=trivial
theorem te8561434293443954448:True:=trivial
theorem te1666401739176207025:True:=trivial
theorem te3844980608974144836:True:=trivial
theorem te13859916276161069405:True:=trivial
theorem te10614931320178568751:True:=trivial
theorem te17328365644427472906:True:=trivial
theorem te1500488645112368500:True:=trivial
theorem te12211255594200194196:True:=trivial
theorem te2181043148138364588:True:=trivial
theorem te6729222877828232905:True:=trivial
theorem te12872754106586476430:True:=trivial
theorem te15111336902094823892:True:=trivial
theorem te637184700931691144:True:=trivial
theorem te2166938609986784147:True:=trivial
theorem te12089121147903074353:True:=trivial
theorem te7282627545339905408:True:=trivial
theorem te3142460840854876076:True:=trivial
theorem te13314164850176397653:True:=trivial
theorem te9191065655248986378:True:=trivial
theorem te3989914658157666985:True:=trivial
theorem te7140054226100852177:True:=trivial
theorem te16602397259656540312:True:=trivial
theorem te190799608958390762:True:=trivial
theorem te2955204353360615539:True:=trivial
theorem te8410370170003768114:True:=trivial
theorem te9109740272978941848:True:=trivial
theorem te5619866077755349289:True:=trivial
theorem te17559683979105207641:True:=trivial
theorem te8777884737391802013:True:=trivial
theorem te11306362706501936733:True:=trivial
theorem te17933418264990511148:True:=trivial
theorem te16052818813822617870:True:=trivial
theorem te17372856433524941351:True:=trivial
theorem te13183507205545827632:True:=trivial
theorem te13880907872669293421:True:=trivial
theorem te10729346097645748154:True:=trivial
theorem te12329846304256210350:True:=trivial
theorem te11273967415811800963:True:=trivial
theorem te13418716497768751979:True:=trivial
theorem te8842372183995202827:True:=trivial
theorem te15862658727405938875:True:=trivial
theorem te16735272775858406436:True:=trivial
theorem te13549338885718553834:True:=trivial
theorem te14858795702920883108:True:=trivial
theorem te14933065904249202424:True:=trivial
theorem te12717228423878310942:True:=trivial
theorem te13591418583147473840:True:=trivial
theorem te10500335853630721763:True:=trivial
theorem te12526839510760132837:True:=trivial
theorem te16779867840575580485:True:=trivial
theorem te13862260922035644615:True:=trivial
theorem te11056452510961297401:True:=trivial
theorem te9802019688890935061:True:=trivial
theorem te3498739970276185270:True:=trivial
theorem te7474392263756021566:True:=trivial
theorem te14683412144702551529:True:=trivial
theorem te13571749531212493815:True:=trivial
theorem te2182772527573136681:True:=trivial
theorem te1494002963632101592:True:=trivial
theorem te239758314945429994:True:=trivial
theorem te10015326171017935318:True:=trivial
theorem te3742304564812905860:True:=trivial
theorem te6080752518778844304:True:=trivial
theorem te3755295338205873785:True:=trivial
theorem te6004104507938676844:True:=trivial
theorem te4169967649009803092:True:=trivial
theorem te923937842276318864:True:=trivial
theorem te13279724866897865298:True:=trivial
theorem te4544575735887729234:True:=trivial
theorem te7352825560426858106:True:=trivial
theorem te280198668213385588:True:=trivial
theorem te14454215297301526119:True:=trivial
theorem te12479939277018540142:True:=trivial
theorem te12729812242653435883:True:=trivial
theorem te825145623382596399:True:=trivial
theorem te1778038954986655206:True:=trivial
theorem te2959496652409418096:True:=trivial
theorem te4867857169081102177:True:=trivial
theorem te668899670203720604:True:=trivial
theorem te1302301264116538842:True:=trivial
theorem te13579255091853363065:True:=trivial
theorem te16150491284348913794:True:=trivial
theorem te8624866699491450863:True:=trivial
theorem te10349885111812309875:True:=trivial
theorem te3764463460152015871:True:=trivial
theorem te16755911524245552111:True:=trivial
theorem te12954629564562585746:True:=trivial
theorem te8622086745929723516:True:=trivial
theorem te8948139236603929365:True:=trivial
theorem te10013623075935670063:True:=trivial
theorem te16104391382913091707:True:=trivial
theorem te3908512584764472096:True:=trivial
theorem te8655647454725436676:True:=trivial
theorem te12243015551203783846:True:=trivial
theorem te16496177869169473558:True:=trivial
theorem te10965628115017580363:True:=trivial
theorem te980860291130857456:True:=trivial
theorem te16116135902998559928:True:=trivial
theorem te15903835892844081456:True:=trivial
theorem te14699947937256758448:True:=trivial
theorem te7345922727686958683:True:=trivial
theorem te13909584786338957302:True:=trivial
theorem te3215625117674840176:True:=trivial
theorem te8380043425817185197:True:=trivial
theorem te5633440141573908657:True:=trivial
theorem te14735045806346555556:True:=trivial
theorem te1665593700918653464:True:=trivial
theorem te8308540950683754215:True:=trivial
theorem te16050727346597853767:True:=trivial
theorem te12922321646679166497:True:=trivial
theorem te8179449631868514748:True:=trivial
theorem te10016105948086189708:True:=trivial
theorem te15129391284267263371:True:=trivial
theorem te2145054827792024721:True:=trivial
theorem te7619383921404949824:True:=trivial
theorem te12600529923320003555:True:=trivial
theorem te16269526596830212137:True:=trivial
theorem te173796108797889269:True:=trivial
theorem te7683976508634004330:True:=trivial
theorem te2303045349124913498:True:=trivial
theorem te4756316382949534608:True:=trivial
theorem te3229329111107562382:True:=trivial
theorem te429271192735297043:True:=trivial
theorem te11241675296775683800:True:=trivial
theorem te15606496874569194816:True:=trivial
theorem te6508922919821830968:True:=trivial
theorem te7707787352346533676:True:=trivial
theorem te8023788528549147186:True:=trivial
theorem te15937701424082699897:True:=trivial
theorem te327706637311113881:True:=trivial
theorem te5044071978003843328:True:=trivial
theorem te499975314466457336:True:=trivial
theorem te17329785891340174111:True:=trivial
theorem te13358409882788939429:True:=trivial
theorem te2453524144005618421:True:=trivial
theorem te7016137147466505530:True:=trivial
theorem te994991398258494082:True:=trivial
theorem te15370392006889680690:True:=trivial
theorem te3050967333996145782:True:=trivial
theorem te4595594430235167373:True:=trivial
theorem te7819398982996099486:True:=trivial
end PySem.Challenge.cw_waitloom_k05_whole_shown_and_read_holds
def PySem.Challenge.cw_waitloom_k05_whole_shown_and_read_holds.tw2156562474269769325:PySem.Program:=PySem.Challenge.pw_waitloom_k05_whole_shown_and_read
theorem PySem.Challenge.cw_waitloom_k05_whole_shown_and_read_holds.te2156562474269769325:PySem.Challenge.pw_waitloom_k05_whole_shown_and_read=PySem.Challenge.cw_waitloom_k05_whole_shown_and_read_holds.tw2156562474269769325:=rfl
open PySem PySem.W PyProof.Rows
set_option maxRecDepth 100000 in
set_option maxHeartbeats 0 in
theorem PySem.Challenge.cw_waitloom_k05_whole_shown_and_read_holds : PySem.Challenge.rw_waitloom_k05_whole_shown_and_read.Holds := by
 w_on;o_law;k_head;(case hw=>w_witness2)
 k_fill
 refine Mine.walk (l:=PySem.Challenge.rw_waitloom_k05_whole_shown_and_read) rfl rfl (fun w h Y=>PySem.W.kIn_of Y) ?F
 case F=>
  intro w mg fa h KX G hmg;refine' Mine.qj4 KX G hmg ?a0 ?l0 ?a1 ?l1 ?a2 ?l2 ?a3 ?l3 ?a4 ?l4 ?a5 ?l5 ?a6 ?l6 ?a7 ?l7 ?a8 ?l8 ?a9 ?l9 ?a10 ?l10 ?a11 ?l11 ?a12 ?l12 ?a13 ?i13 ?l13 ?a14 ?i14 ?l14 ?a15 ?i15 ?l15 ?a16 ?l16 ?a17 ?l17 ?a18 ?l18 ?a19 ?l19 ?a20 ?l20 ?a21 ?l21 ?a22 ?l22 ?a23 ?l23 ?a24 ?l24 ?a25 ?l25 ?a26 ?l26 ?a27 ?l27 ?a28 ?l28 ?a29 ?l29 ?a30 ?l30 ?a31 ?l31 ?a32 ?l32 ?a33 ?l33 ?a34 ?l34 ?a35 ?l35 ?a36 ?l36 ?a37 ?l37 ?a38 ?l38 ?a39 ?l39 ?a40 ?l40 ?a41 ?l41 ?a42 ?l42 ?z_all ?z_isinstance ?z_str ?z_len ?z_bool ?z_int ?z_tuple ?z_set ?z_zip ?z_ord ?z_max ?z_range ?z_list ?g_MOST_LETTERS ?g_GREATEST_NUMBER ?g_MOST_NAMES ?g_MOST_TERMS ?g_MOST_STATEMENTS ?g_MOST_DEPTH ?g_MOST_PARTS ?g_PERCENT ?g_MOST_SIGNS ?g_MOST_FIGURES ?n_LoomError ?n_BadTree ?n_BadText ?n_Opening ?x_own ?h_sm ?x_e1 ?h_pg ?h_hd ?h_po ?h_sa ?h_aS ?h_aT ?h_mk ?h_kc ?g_SIGNS ?l_SIGNS ?g_FORMS ?l_FORMS ?l_FORMS0 ?l_FORMS1 ?l_FORMS2 ?l_FORMS3 ?l_FORMS4 ?l_FORMS5 ?l_FORMS6 ?l_FORMS7 ?l_FORMS8 ?l_FORMS9 ?l_FORMS10 ?l_FORMS11 ?l_FORMS12 ?l_FORMS13 ?l_FORMS14 ?l_FORMS15 ?l_FORMS16 ?g_HEADS ?l_HEADS ?l_HEADS0 ?l_HEADS1 ?l_HEADS2 ?g_MEMBERS ?l_MEMBERS ?g_UNWRITTEN ?l_UNWRITTEN ?g_OPEN_ENDED ?l_OPEN_ENDED ?g_BRACKETED ?l_BRACKETED
  (case n_LoomError=>k_is)
  (case n_BadTree=>k_is)
  (case n_BadText=>k_is)
  (case n_Opening=>k_is)
  (case a0=>k_is)
  (case l0=>exact ⟨_,_,_,_,_,_,_,_,by k_is,by k_is,by k_is⟩)
  (case a1=>k_is)
  (case l1=>exact ⟨_,_,_,_,_,_,_,_,by k_is,by k_is,by k_is⟩)
  (case a2=>k_is)
  (case l2=>exact ⟨_,_,_,_,_,_,_,_,by k_is,by k_is,by k_is⟩)
  (case a3=>k_is)
  (case l3=>exact ⟨_,_,_,_,_,_,_,_,by k_is,by k_is,by k_is⟩)
  (case a4=>k_is)
  (case l4=>exact ⟨_,_,_,_,_,_,_,_,by k_is,by k_is,by k_is⟩)
  (case a5=>k_is)
  (case l5=>exact ⟨_,_,_,_,_,_,_,_,by k_is,by k_is,by k_is⟩)
  (case a6=>k_is)
  (case l6=>exact ⟨_,_,_,_,_,_,_,_,by k_is,by k_is,by k_is⟩)
  (case a7=>k_is)
  (case l7=>exact ⟨_,_,_,_,_,_,_,_,by k_is,by k_is,by k_is⟩)
  (case a8=>k_is)
  (case l8=>exact ⟨_,_,_,_,_,_,_,_,by k_is,by k_is,by k_is⟩)
  (case a9=>k_is)
  (case l9=>exact ⟨_,_,_,_,_,_,_,_,by k_is,by k_is,by k_is⟩)
  (case a10=>k_is)
  (case l10=>exact ⟨_,_,_,_,_,_,_,_,by k_is,by k_is,by k_is⟩)
  (case a11=>k_is)
  (case l11=>exact ⟨_,_,_,_,_,_,_,_,by k_is,by k_is,by k_is⟩)
  (case a12=>k_is)
  (case l12=>exact ⟨_,_,_,_,_,_,_,_,by k_is,by k_is,by k_is⟩)
  (case a13=>k_is)
  (case i13=>k_is)
  (case l13=>exact ⟨_,_,_,_,_,_,_,_,by k_is,by k_is,by k_is⟩)
  (case a14=>k_is)
  (case i14=>k_is)
  (case l14=>exact ⟨_,_,_,_,_,_,_,_,by k_is,by k_is,by k_is⟩)
  (case a15=>k_is)
  (case i15=>k_is)
  (case l15=>exact ⟨_,_,_,_,_,_,_,_,by k_is,by k_is,by k_is⟩)
  (case a16=>k_is)
  (case l16=>exact ⟨_,_,_,_,_,_,_,_,by k_is,by k_is,by k_is⟩)
  (case a17=>k_is)
  (case l17=>exact ⟨_,_,_,_,_,_,_,_,by k_is,by k_is,by k_is⟩)
  (case a18=>k_is)
  (case l18=>exact ⟨_,_,_,_,_,_,_,_,by k_is,by k_is,by k_is⟩)
  (case a19=>k_is)
  (case l19=>exact ⟨_,_,_,_,_,_,_,_,by k_is,by k_is,by k_is⟩)
  (case a20=>k_is)
  (case l20=>exact ⟨_,_,_,_,_,_,_,_,by k_is,by k_is,by k_is⟩)
  (case a21=>k_is)
  (case l21=>exact ⟨_,_,_,_,_,_,_,_,by k_is,by k_is,by k_is⟩)
  (case a22=>k_is)
  (case l22=>exact ⟨_,_,_,_,_,_,_,_,by k_is,by k_is,by k_is⟩)
  (case a23=>k_is)
  (case l23=>exact ⟨_,_,_,_,_,_,_,_,by k_is,by k_is,by k_is⟩)
  (case a24=>k_is)
  (case l24=>exact ⟨_,_,_,_,_,_,_,_,by k_is,by k_is,by k_is⟩)
  (case a25=>k_is)
  (case l25=>exact ⟨_,_,_,_,_,_,_,_,by k_is,by k_is,by k_is⟩)
  (case a26=>k_is)
  (case l26=>exact ⟨_,_,_,_,_,_,_,_,by k_is,by k_is,by k_is⟩)
  (case a27=>k_is)
  (case l27=>exact ⟨_,_,_,_,_,_,_,_,by k_is,by k_is,by k_is⟩)
  (case a28=>k_is)
  (case l28=>exact ⟨_,_,_,_,_,_,_,_,by k_is,by k_is,by k_is⟩)
  (case a29=>k_is)
  (case l29=>exact ⟨_,_,_,_,_,_,_,_,by k_is,by k_is,by k_is⟩)
  (case a30=>k_is)
  (case l30=>exact ⟨_,_,_,_,_,_,_,_,by k_is,by k_is,by k_is⟩)
  (case a31=>k_is)
  (case l31=>exact ⟨_,_,_,_,_,_,_,_,by k_is,by k_is,by k_is⟩)
  (case a32=>k_is)
  (case l32=>exact ⟨_,_,_,_,_,_,_,_,by k_is,by k_is,by k_is⟩)
  (case a33=>k_is)
  (case l33=>exact ⟨_,_,_,_,_,_,_,_,by k_is,by k_is,by k_is⟩)
  (case a34=>k_is)
  (case l34=>exact ⟨_,_,_,_,_,_,_,_,by k_is,by k_is,by k_is⟩)
  (case a35=>k_is)
  (case l35=>exact ⟨_,_,_,_,_,_,_,_,by k_is,by k_is,by k_is⟩)
  (case a36=>k_is)
  (case l36=>exact ⟨_,_,_,_,_,_,_,_,by k_is,by k_is,by k_is⟩)
  (case a37=>k_is)
  (case l37=>exact ⟨_,_,_,_,_,_,_,_,by k_is,by k_is,by k_is⟩)
  (case a38=>k_is)
  (case l38=>exact ⟨_,_,_,_,_,_,_,_,by k_is,by k_is,by k_is⟩)
  (case a39=>k_is)
  (case l39=>exact ⟨_,_,_,_,_,_,_,_,by k_is,by k_is,by k_is⟩)
  (case a40=>k_is)
  (case l40=>exact ⟨_,_,_,_,_,_,_,_,by k_is,by k_is,by k_is⟩)
  (case a41=>k_is)
  (case l41=>exact ⟨_,_,_,_,_,_,_,_,by k_is,by k_is,by k_is⟩)
  (case a42=>k_is)
  (case l42=>exact ⟨_,_,_,_,_,_,_,_,by k_is,by k_is,by k_is⟩)
  (case z_all=>k_is)
  (case z_isinstance=>k_is)
  (case z_str=>k_is)
  (case z_len=>k_is)
  (case z_bool=>k_is)
  (case z_int=>k_is)
  (case z_tuple=>k_is)
  (case z_set=>k_is)
  (case z_zip=>k_is)
  (case z_ord=>k_is)
  (case z_max=>k_is)
  (case z_range=>k_is)
  (case z_list=>k_is)
  (case g_MOST_LETTERS=>k_is)
  (case g_GREATEST_NUMBER=>k_is)
  (case g_MOST_NAMES=>k_is)
  (case g_MOST_TERMS=>k_is)
  (case g_MOST_STATEMENTS=>k_is)
  (case g_MOST_DEPTH=>k_is)
  (case g_MOST_PARTS=>k_is)
  (case g_PERCENT=>k_is)
  (case g_MOST_SIGNS=>k_is)
  (case g_MOST_FIGURES=>k_is)
  (case x_own=>k_exc)
  (case x_e1=>kts_exm)
  (case h_pg=>k_is)
  (case h_hd=>k_is)
  (case h_po=>k_is)
  (case h_sa=>k_is)
  (case h_aS=>k_is)
  (case h_aT=>k_is)
  (case h_mk=>k_is)
  (case h_kc=>k_is)
  (case g_SIGNS=>k_is)
  (case l_SIGNS=>k_is)
  (case g_FORMS=>k_is)
  (case l_FORMS=>k_is)
  (case l_FORMS0=>k_is)
  (case l_FORMS1=>k_is)
  (case l_FORMS2=>k_is)
  (case l_FORMS3=>k_is)
  (case l_FORMS4=>k_is)
  (case l_FORMS5=>k_is)
  (case l_FORMS6=>k_is)
  (case l_FORMS7=>k_is)
  (case l_FORMS8=>k_is)
  (case l_FORMS9=>k_is)
  (case l_FORMS10=>k_is)
  (case l_FORMS11=>k_is)
  (case l_FORMS12=>k_is)
  (case l_FORMS13=>k_is)
  (case l_FORMS14=>k_is)
  (case l_FORMS15=>k_is)
  (case l_FORMS16=>k_is)
  (case g_HEADS=>k_is)
  (case l_HEADS=>k_is)
  (case l_HEADS0=>k_is)
  (case l_HEADS1=>k_is)
  (case l_HEADS2=>k_is)
  (case g_MEMBERS=>k_is)
  (case l_MEMBERS=>k_is)
  (case g_UNWRITTEN=>k_is)
  (case l_UNWRITTEN=>k_is)
  (case g_OPEN_ENDED=>k_is)
  (case l_OPEN_ENDED=>k_is)
  (case g_BRACKETED=>k_is)
  (case l_BRACKETED=>k_is)
  (case h_sm=>rfl)
