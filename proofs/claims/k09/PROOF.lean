import PyProof.Rows.All
import Wide.All
import OpenK.AllK
import Wide.FinOn
import Lean
import PyProof.EqAt
import PyProof.EqKinds
import PyProof.TupleCall
import PyProof.EqLayable
import PyProof.FitsBits
import PyProof.FitsInt
import PyProof.ReprLen
import PyProof.ReprReads
import PyProof.StrLawsRepr
import KE.KRevIter
import KE.KDictSum
import KE.KRevSl
import PyProof.Rows.ZipGen
import PyProof.Rows.SortWalk
import KE.KDictList
import PyProof.Rows.Tup
import PyProof.Rows.Range3
import PyProof.EnumMake
import PyProof.EnumFor
import PyProof.Rows.SortStr
import PyProof.Rows.SeqMore2
import PyProof.Rows.StrInSeq3
import PySem.Challenge.RW_waitloom_k09_names_refused
set_option Elab.async false
set_option linter.all false
set_option genSizeOf false
set_option maxRecDepth 100000
noncomputable section
open PySem.W(Frag)
local macro_rules|`(∅)=>`(by decide+kernel)
local macro_rules|`(⋯)=>`(by omega)
theorem O0 {p:Prop} (h:p:=by decide):p:=h
open PySem renaming wpAny_bind→Aa,wpAny_pure→Ai,mem_of_lookup→Bk,wpAny_mono→Bq,wpAny_field→Bs,wpAny_holding→B5,wpAny_newObj_type→Cj,wpAny_call_entry→Ck,wpAny_truthy_bool→Cl,builtinLookup_eq_fast→Cn,wpAny_callSpecial?_slot→Cq,wpAny_of_eq→C6,wpAny_seqItems→Df,codeAny_call_builtin→Di,wpAny_specialOf→Dk,typeLookup_type→Dl,wpAny_attempt→Do,wpAny_setField→Dr,wpAny_setField_rec→Du,wpAny_passesOwn→Dz,isSubtype_type→D8,wpAny_getItem_str_slice→Ec,wpAny_ite_split→Ee,wpAny_Call_Name_kw→Eg,wpAny_call→Eh,wpAny_loadPart_at→Ej,codeAny_mono→El,wpAny_isInstance→Es,wpAny_standAt→Et,wpAny_pyIter_tuple→Ez,sizeLine_eq→E4,wpAny_rule→Fa
open List renaming length_map→Ab,length_append→Ac,length_cons→Aj,mem_cons_of_mem→Am,map_append→An,mem_cons→Ap,getElem?_eq_getElem→Aq,size_toArray→Ar,length_singleton→At,mem_cons_self→Au,mem_singleton→Az,getElem?_map→A0,all_eq_true→A3,length_reverse→A4,append_nil→A6,mem_of_getElem?→A9,map_cons→Ba,take_add_one→Bb,not_mem_nil→Bg,mem_append_right→Bh,length_nil→Bj,mem_append→Bl,take_length→Bp,map_map→Bu,length_take_le→Bv,nil_append→Bw,lookup_cons→Bx,mem_map→By,getElem?_eq_some_iff→B2,foldl_cons→B3,append_assoc→B6,mem_append_left→B7,flatMap_append→Ch,mem_map_of_mem→Ci,contains_iff_mem→Co,length_take→Cr,mem_of_mem_take→Ct,any_cons→Cu,getElem?_append_right→Cw,flatMap_cons→Cz,reverse_cons→C0,find?_cons→C1,mem_flatMap→C2,cons_append→C5,getElem?_cons_succ→Da,nodup_cons→Db,take_of_length_le→Dc,any_eq_true→De,mem_range→Dg,take_append_drop→Dh,of_mem_zip→Dj,getElem_mem→Dq,all_map→Dx,length_set→Dy,sum_cons→D3,getElem?_append_left→D5,getElem?_zip_eq_some→D6,getElem?_set_ne→D7,filterMap_cons→Eb,length_zip→Ef,map_nil→Em,map_id→Eu,mem_filter→Ev,forIn_cons→Ew,mem_filterMap→Ey,nodup_nil→E2,length_range→E3,all_cons→E5,map_take→E6
open Bool renaming and_eq_true→Ae,false_ne_true→Ag,eq_false_iff→Bo,or_eq_true→B4,eq_iff_iff→Cc,true_and→Cm,false_and→Cp,and_false→C9,not_eq_true'→D4,or_false→Ed,or_eq_false_iff→Ep,or_true→E8
open PySem.Heap renaming get?_push_of_some→Af,lt_size→Al,get?_push_size→Aw,get?_update_other→Bn,get?_update_self→Cb,size_push→Cy,get?_none_of_le→C8
open Nat renaming le_refl→Ah,le_trans→Av,ne_of_lt→A8,lt_of_lt_of_le→Bi,zero_le→Bm,succ_le_succ→Cd,ne_of_gt→Cv,lt_of_le_of_lt→C4,le_succ_of_le→Dm,le_succ→Ds,max_le→Dt,lt_irrefl→D1,lt_succ_of_lt→Ek,lt_succ_self→Er,add_assoc→E7
open PySem.W renaming mg_of→Ao,mg_none_of→Br,kia_one→B9,looks_findIn→C7,hideAll_get→Ea
open PySem.F renaming plainAttrs_list→A5,type_list_append→Bz,slot_list_append→B0,slot_list_extend→Cf,type_list_extend→Cg,slot_tuple_iterator_next→D0
open Int renaming emod_lt_of_pos→A7,emod_nonneg→Bf,le_trans→B1,zero_add→E9
open Option.some renaming inj→Be
open PySem.PassesOwn renaming never→Bt,leaving→Ei
open PyProof.Rows renaming callWith_type1→B8
open PySem.Paired renaming length→Ce
open PySem.Obj renaming data_mapFields→C3,isFreed_of_fields→En
open Array renaming getElem?_eq_some_iff→Dd,length_toList→Dp
open PyProof.Rows.F renaming plain_set_update_loop→Dv
open PySem.W.Looks renaming here→Dw
open Option renaming isSome_iff_exists→D9
open PySem.Calls renaming evalArgs_plain→Eo
open PySem.Code renaming quiet_builtin→Ex
def Ak:=@decide_eq_true
def As:=@decide_eq_false
def Ax:=@beq_iff_eq
def Ay:=@of_decide_eq_true
def Bc:=@beq_eq_false_iff_ne
def Dn:=@decide_eq_true_eq
namespace L2
open PySem PySem.Spec PyProof.Rows
abbrev Key:=Sum Int Str
def Wi:Key→Value→Bool
 | .inl k,v=>Value.isInt k v
 | .inr x,v=>Value.isStrOf x v
def keyH (w:World):Key→Int
 | .inl k=>hashInt k
 | .inr x=>hashStr w x
theorem zo:∀ {k:Key} {v:Value},Wi k v=true→(∃ i t,k=Sum.inl i∧v=Value.int i t)∨(∃ x t,k=Sum.inr x∧v=Value.str x t)
 | .inl i,v,h=>by
  obtain ⟨t,e⟩:=Value.isInt_shape (k:=i) (v:=v) h;exact .inl ⟨i,t,rfl,e⟩
 | .inr x,v,h=>by
  obtain ⟨t,e⟩:=Value.isStrOf_shape (x:=x) (v:=v) h;exact .inr ⟨x,t,rfl,e⟩
theorem qcp (i:Int) (t:Tok):Wi (.inl i) (.int i t)=true:=by simp [Wi,Value.isInt]
theorem vV (x:Str) (t:Tok):Wi (.inr x) (.str x t)=true:=by simp [Wi,Value.isStrOf]
theorem qjg (a b:Int):decide ((Sum.inl a:Key)=Sum.inl b)=(a==b):=by
 by_cases e:a=b
 ·subst e;simp
 ·have h:¬ (Sum.inl a:Key)=Sum.inl b:=fun q=>e (Sum.inl.inj q);rw [As h];exact (Bc.mpr e).symm
theorem qjd (a b:Str):decide ((Sum.inr a:Key)=Sum.inr b)=decide (a=b):=by
 by_cases e:a=b
 ·subst e;simp
 ·have h:¬ (Sum.inr a:Key)=Sum.inr b:=fun q=>e (Sum.inr.inj q);rw [As h,As e]
theorem qjf (a:Int) (b:Str):decide ((Sum.inl a:Key)=Sum.inr b)=false:=As (fun q=>nomatch q)
theorem qje (a:Str) (b:Int):decide ((Sum.inr a:Key)=Sum.inl b)=false:=As (fun q=>nomatch q)
def ze (prog:Program) (w:World):PySem.KeyKind prog w Key where
 is:=Wi
 hash:=keyH w
 inj:=fun v a b ha hb=>by
  rcases zo ha with ⟨i,t,rfl,rfl⟩ | ⟨x,t,rfl,rfl⟩
  ·rcases zo hb with ⟨j,u,rfl,e⟩ | ⟨y,u,rfl,e⟩
   ·injection e with e1 _;rw [e1]
   ·exact nomatch e
  ·rcases zo hb with ⟨j,u,rfl,e⟩ | ⟨y,u,rfl,e⟩
   ·exact nomatch e
   ·injection e with e1 _;rw [e1]
 byValue:=fun k v h=>by
  rcases zo h with ⟨i,t,rfl,rfl⟩ | ⟨x,t,rfl,rfl⟩ <;> rfl
 pyHash:=fun hv h=>by
  rcases zo hv with ⟨i,t,rfl,rfl⟩ | ⟨x,t,rfl,rfl⟩
  ·exact wpAny_pyHash_int h
  ·exact wpAny_pyHash_str h
 eqBool:=fun hu hv h=>by
  rcases zo hu with ⟨i,t,rfl,rfl⟩ | ⟨x,t,rfl,rfl⟩
  ·rcases zo hv with ⟨j,u,rfl,rfl⟩ | ⟨y,u,rfl,rfl⟩
   ·rw [qjg] at h;exact wpAny_eqBool_int h
   ·rw [qjf] at h;exact SeqAt.EqAt.int_str i t y u _ _ _ _ h
  ·rcases zo hv with ⟨j,u,rfl,rfl⟩ | ⟨y,u,rfl,rfl⟩
   ·rw [qje] at h;exact SeqAt.EqAt.str_int x t j u _ _ _ _ h
   ·rw [qjd] at h;exact wpAny_eqBool_str h
 «strs» :=fun k x t v h=>by
  rcases zo h with ⟨i,u,rfl,e⟩ | ⟨y,u,rfl,e⟩
  ·exact nomatch e
  ·injection e with e1 _
   subst e1;cases v <;> rfl
theorem ZR (prog:Program) (w:World) (i:Int) (t:Tok):(ze prog w).is (.inl i) (.int i t)=true:=qcp i t
theorem Wf (prog:Program) (w:World) (x:Str) (t:Tok):(ze prog w).is (.inr x) (.str x t)=true:=vV x t
inductive V where
 | non | bl (b:Bool) | int (i:Int) | str (x:Str) | byt (b:Array UInt8) | flt (b:UInt64) | ref (a:Addr) | ty (n:String)
 deriving DecidableEq
def qM:V→Value→Prop
 | .non,u=>u=Value.none
 | .bl b,u=>u=Value.bool b
 | .int i,u=>∃ t,u=Value.int i t
 | .str x,u=>∃ t,u=Value.str x t
 | .byt b,u=>∃ t,u=Value.bytes b t
 | .flt b,u=>∃ t,u=Value.float b t
 | .ref a,u=>u=Value.ref a
 | .ty n,u=>u=Value.type n
abbrev qP:List V→List Value→Prop:=Paired qM
theorem qP.length {xs:List V} {us:List Value} (r:qP xs us):xs.length=us.length:=Ce r
theorem qP.get:∀ {xs:List V} {us:List Value} {i:Nat} {x:V},qP xs us→xs[i]?=some x→∃ u,us[i]?=some u∧qM x u
 | _,_,_,_,.nil,e=>by simp at e
 | _,_,0,_,.cons r _,e=>by simp at e;subst e;exact ⟨_,rfl,r⟩
 | _,_,i+1,x,.cons _ t,e=>by
  obtain ⟨u,h1,h2⟩:=qP.get (i:=i) (x:=x) t (by simpa using e)
  exact ⟨u,by simpa using h1,h2⟩
theorem qP.set {x:V} {u:Value} (r:qM x u):∀ {xs:List V} {us:List Value} (i:Nat),qP xs us→qP (xs.set i x) (us.set i u)
 | _,_,_,.nil=> .nil
 | _,_,0,.cons _ t=> .cons r t
 | _,_,i+1,.cons q t=> .cons q (qP.set r i t)
theorem qP.append:∀ {xs ys:List V} {us ws:List Value},qP xs us→qP ys ws→qP (xs++ys) (us++ws)
 | _,_,_,_,.nil,s=>s
 | _,_,_,_,.cons r t,s=> .cons r (qP.append t s)
theorem qP.take:∀ {xs:List V} {us:List Value} (n:Nat),qP xs us→qP (xs.take n) (us.take n)
 | _,_,0,_=> .nil
 | _,_,_+1,.nil=> .nil
 | _,_,n+1,.cons r t=> .cons r (qP.take n t)
theorem qP.drop:∀ {xs:List V} {us:List Value} (n:Nat),qP xs us→qP (xs.drop n) (us.drop n)
 | _,_,0,r=>r
 | _,_,_+1,.nil=> .nil
 | _,_,n+1,.cons _ t=>qP.drop n t
theorem qP.none_of:∀ {xs:List V} {us:List Value} {i:Nat},qP xs us→xs[i]?=none→us[i]?=none:=fun {xs us i} r e=>by
 have h1:=r.length;have h2:xs.length≤i:=List.getElem?_eq_none_iff.mp e;exact List.getElem?_eq_none_iff.mpr ⋯
def vK:Option V→Option Value→Prop
 | some v,some u=>qM v u
 | none,none=>True
 | _,_=>False
def KV {κ:Type}:List (κ×V)→List (κ×Value)→Prop:=Paired fun (p:κ×V) (q:κ×Value)=>p.1=q.1∧qM p.2 q.2
def kV:Key→V
 | .inl i=> .int i
 | .inr x=> .str x
inductive HO where
 | lst (xs:List V)
 | tup (xs:List V)
 | dK (kvs:List (Key×V)) | dT (kvs:List (List Key×V))
 | set (S:Int→Bool) (n:Nat)
 | ins (C dx:Addr) (fs:List (Str×V))
 | own (x:Addr)
 | xd (fs:List (Str×V))
 | met (f x:Addr)
 | rng (lo hi:Int)
 | frz (o:Obj) (u:HO)
 | tbl (ps:Array Value)
 | ext (φ:Heap→Prop)
abbrev Hp:=Addr→Option HO
def upd (H:Hp) (a:Addr) (o:HO):Hp:=fun b=>if b=a then some o else H b
theorem upd_same {H:Hp} {a:Addr} {o:HO}:upd H a o a=some o:=by unfold upd;rw [if_pos rfl]
theorem qm {H:Hp} {a b:Addr} {o:HO} (h:b≠a):upd H a o b=H b:=by unfold upd;rw [if_neg h]
theorem We {H:Hp} {a b:Addr} {o u:HO} (h:H a=some o) (h':H b=some u) (d:o≠u):a≠b:=by
 intro e;subst e;rw [h] at h';exact d (Be h')
theorem qx {H:Hp} {a b:Addr} {o:HO} (h:H a=some o) (h':H b=none):a≠b:=by
 intro e;subst e;rw [h] at h';cases h'
section
variable (P:Program) (w:World)
def zd (H:Hp) (h:Heap) (a:Addr):HO→Prop
 | .lst xs=>xs.length≤sizeLine∧∃ (its:List Value) (n:Nat),qP xs its∧h.get? a=some {cls:= .type "list",data:= .seq its.toArray n}
 | .tup xs=>xs.length≤sizeLine∧∃ its:List Value,qP xs its∧IsTup h a its.toArray
 | .dK kvs=>kvs.length≤sizeLine∧(a==sysModules)=false∧∃ vs,KV kvs vs∧h.DictOf (ze P w) a vs
 | .dT kvs=>kvs.length≤sizeLine∧(a==sysModules)=false∧∃ xs:List (List Key×Addr×Value),
   Paired (fun (p:List Key×V) (q:List Key×Addr×Value)=>p.1=q.1∧H q.2.1=some (.tup (p.1.map kV))∧qM p.2 q.2.2) kvs xs∧
   ∃ o es ep,h.get? a=some o∧o.ExactDict∧o.data= .dict es ep∧es.toList=xs.map (entryOfKey (tupleKind (ze P w)))∧(xs.map (·.1)).Nodup
 | .set S n=>h.SetOf (intKind P w) a S n
 | .ins C dx fs=>H dx=some (.own a)∧fs.length≤1000∧dx≠a∧h.get? a=some (PySem.W.instObj C dx)∧
   ∃ mA,h.Ns1 dx mA∧(∀ f,vK (fs.lookup f) (mA f))∧PySem.Within mA (fs.map (·.1))
 | .own _=>∃ o,h.get? a=some o
 | .xd fs=>∃ mA,h.Ns1 a mA∧∀ f,vK (fs.lookup f) (mA f)
 | .rng lo hi=>∃ t u v,h.get? a=some {cls:= .type "range",data:= .fields #[.int lo t,.int hi u,.int 1 v]}
 | .frz o u=>h.get? a=some o∧zd H h a u
 | .tbl ps=>h.get? a=some {cls:= .none,data:= .fields ps}
 | .met f x=>h.get? a=some (PySem.W.methodObj (.ref f) (.ref x))
 | .ext φ=>φ h∧(∃ o,h.get? a=some o)∧∀ h1 h2:Heap,φ h1→(∀ o,h1.get? a=some o→h2.get? a=some o)→φ h2
def HOk (H:Hp) (h:Heap):Prop:=∀ a o,H a=some o→zd P w H h a o
end
section
variable {P:Program} {w:World} {H H':Hp} {h h':Heap} {a:Addr} {o:HO}
theorem zd.lt (x:zd P w H h a o):a<h.objs.size:=by
 cases o with
 | lst xs=>obtain ⟨_,_,_,_,e⟩:=x;exact Al e
 | tup xs=>obtain ⟨_,_,_,p⟩:=x;exact p.lt
 | dK kvs=>obtain ⟨_,_,_,_,o,_,_,e,_⟩:=x;exact Al e
 | dT kvs=>obtain ⟨_,_,_,_,o,_,_,e,_⟩:=x;exact Al e
 | set S n=>obtain ⟨o,_,_,_,e,_⟩:=x;exact Al e
 | ins C dx fs=>obtain ⟨_,_,_,e,_⟩:=x;exact Al e
 | own y=>obtain ⟨_,e⟩:=x;exact Al e
 | xd fs=>obtain ⟨_,⟨_,_,_,e,_⟩,_⟩:=x;exact Al e
 | rng lo hi=>obtain ⟨_,_,_,e⟩:=x;exact Al e
 | frz ob u=>obtain ⟨e,_⟩:=x;exact Al e
 | tbl ps=>exact Al (show h.get? a=some _ from x)
 | met f y=>exact Al (show h.get? a=some _ from x)
 | ext φ=>obtain ⟨_,⟨_,e⟩,_⟩:=x;exact Al e
theorem Paired.mapP {α β:Type} {F G:α→β→Prop}:∀ {l₁:List α} {l₂:List β},Paired F l₁ l₂→(∀ a b,F a b→G a b)→Paired G l₁ l₂
 | _,_,.nil,_=> .nil
 | _,_,.cons r t,f=> .cons (f _ _ r) (Paired.mapP t f)
theorem zd.stay (x:zd P w H h a o) (k:∀ b u,(b=a∨H b=some (.own a))→h.get? b=some u→h'.get? b=some u)
  (ho:∀ b,H b=some (.own a)→H' b=some (.own a)) (ht:∀ b xs,H b=some (.tup xs)→H' b=some (.tup xs)):zd P w H' h' a o:=by
 induction o with
 | lst xs=>obtain ⟨z,its,n,r,e⟩:=x;exact ⟨z,its,n,r,k _ _ (.inl rfl) e⟩
 | tup xs=>obtain ⟨z,its,r,ob,e,c⟩:=x;exact ⟨z,its,r,ob,k _ _ (.inl rfl) e,c⟩
 | dK kvs=>obtain ⟨z,y,vs,r,ob,es,ep,e,c⟩:=x;exact ⟨z,y,vs,r,ob,es,ep,k _ _ (.inl rfl) e,c⟩
 | dT kvs=>
  obtain ⟨z,y,xs,r,ob,es,ep,e,c⟩:=x;exact ⟨z,y,xs,Paired.mapP r fun p q z=>⟨z.1,ht _ _ z.2.1,z.2.2⟩,ob,es,ep,k _ _ (.inl rfl) e,c⟩
 | set S n=>obtain ⟨ob,es,ep,t,e,c⟩:=x;exact ⟨ob,es,ep,t,k _ _ (.inl rfl) e,c⟩
 | ins C dx fs=>
  obtain ⟨d,z,ne,e,mA,⟨od,es,ep,e2,c⟩,r⟩:=x;exact ⟨ho _ d,z,ne,k _ _ (.inl rfl) e,mA,⟨od,es,ep,k _ _ (.inr d) e2,c⟩,r⟩
 | own y=>obtain ⟨ob,e⟩:=x;exact ⟨ob,k _ _ (.inl rfl) e⟩
 | xd fs=>obtain ⟨mA,⟨od,es,ep,e,c⟩,r⟩:=x;exact ⟨mA,⟨od,es,ep,k _ _ (.inl rfl) e,c⟩,r⟩
 | rng lo hi=>obtain ⟨t,u,v,e⟩:=x;exact ⟨t,u,v,k _ _ (.inl rfl) e⟩
 | frz ob u ih=>obtain ⟨e,q⟩:=x;exact ⟨k _ _ (.inl rfl) e,ih q⟩
 | tbl ps=>
  have e:h.get? a=some {cls:= .none,data:= .fields ps}:=x;show h'.get? a=some {cls:= .none,data:= .fields ps};exact k a _ (.inl rfl) e
 | met f y=>
  have e:h.get? a=some (PySem.W.methodObj (.ref f) (.ref y)):=x;show h'.get? a=some (PySem.W.methodObj (.ref f) (.ref y));exact k a _ (.inl rfl) e
 | ext φ=>obtain ⟨p,⟨o,e⟩,st⟩:=x;exact ⟨st _ _ p fun o q=>k _ _ (.inl rfl) q,⟨o,k _ _ (.inl rfl) e⟩,st⟩
theorem HOk.lt (x:HOk P w H h) (e:H a=some o):a<h.objs.size:=(x a o e).lt
theorem HOk.fresh (x:HOk P w H h) (e:h.objs.size≤a):H a=none:=by
 cases q:H a with
 | none=>rfl
 | some u=>exact absurd (Bi (x.lt q) e) (D1 _)
theorem HOk.kept (x:HOk P w H h) (k:∀ b u,h.get? b=some u→h'.get? b=some u):HOk P w H h':=fun a o e=>
 (x a o e).stay (fun b u _ q=>k b u q) (fun _ q=>q) fun _ _ q=>q
theorem HOk.laid (x:HOk P w H h) (k:∀ b u,h.get? b=some u→h'.get? b=some u) (hp:h.objs.size≤a) (new:zd P w (upd H a o) h' a o):HOk P w (upd H a o) h':=fun b u e=>by
 have hn:=x.fresh hp
 by_cases hb:b=a
 ·subst hb;rw [upd_same] at e;cases e;exact new
 ·rw [qm hb] at e;exact (x b u e).stay (fun c v _ q=>k c v q) (fun c q=>by rw [qm (qx q hn)];exact q) fun c xs q=>by rw [qm (qx q hn)];exact q
end
def Rd (H:Hp) (a:Addr) (u:HO):Prop:=H a=some u∨∃ o,H a=some (.frz o u)
theorem Rd.ok {P:Program} {w:World} {H:Hp} {h:Heap} {a:Addr} {u:HO} (r:Rd H a u) (x:HOk P w H h):zd P w H h a u:=by
 rcases r with r | ⟨o,r⟩
 ·exact x a u r
 ·obtain ⟨_,q⟩:=x a _ r;exact q
def Mut:Option HO→Prop
 | some (.lst _)=>True
 | some (.dK _)=>True
 | some (.dT _)=>True
 | some (.set _ _)=>True
 | some (.ins _ _ _)=>True
 | some (.ext _)=>True
 | _=>False
section
variable {P:Program} {w:World} {H:Hp} {h h':Heap} {x e:Addr} {o':HO}
theorem HOk.write (ok:HOk P w H h) (mu:Mut (H x)) (he:e=x∨H e=some (.own x)) (k:∀ b u,b≠e→h.get? b=some u→h'.get? b=some u) (heo:∃ u,h'.get? e=some u)
  (new:zd P w (upd H x o') h' x o'):HOk P w (upd H x o') h':=fun b u q=>by
 have nown:∀ c y,H c=some (.own y)→c≠x:=fun c y r z=>by subst z;rw [r] at mu;exact mu
 have ntup:∀ c xs,H c=some (.tup xs)→c≠x:=fun c xs r z=>by subst z;rw [r] at mu;exact mu
 by_cases hb:b=x
 ·subst hb;rw [upd_same] at q;cases q;exact new
 ·rw [qm hb] at q
  by_cases hbe:b=e
  ·have q':H b=some (.own x):=by
    rcases he with z | z
    ·exact absurd (hbe.trans z) hb
    ·rw [hbe];exact z
   rw [q] at q';cases q';obtain ⟨v,hv⟩:=heo;exact ⟨v,by rw [hbe];exact hv⟩
  ·refine (ok b u q).stay (fun c v hc r=>k c v ?_ r) (fun c r=>by rw [qm (nown c b r)];exact r) fun c xs r=>by rw [qm (ntup c xs r)];exact r
   rcases hc with rfl | hc
   ·exact hbe
   ·rintro rfl;rcases he with z | z
    ·exact nown c b hc z
    ·rw [hc] at z;cases z;exact hb rfl
end
structure Un (fs ex:List Addr) (H H':Hp) (h h':Heap):Prop where
 keep:∀ b o,h.get? b=some o→H b=none→b∉fs→b∉ex→h'.get? b=some o
 slot:∀ b o,h.get? b=some o→H b=none→b∈fs→b∉ex→∃ sl,h'.get? b=some {o with slots:=sl}
 free:∀ b o,h.get? b=some o→H b=none→b∉ex→H' b=none
 there:∀ b o,h.get? b=some o→b∉ex→∃ o',h'.get? b=some o'
 tups:∀ b xs,H b=some (.tup xs)→H' b=some (.tup xs)
 frzs:∀ b o u,H b=some (.frz o u)→H' b=some (.frz o u)
 tbls:∀ b ps,H b=some (.tbl ps)→∃ more,H' b=some (.tbl (ps++more))
section
variable {fs fs' ex ex':List Addr} {H H1 H2:Hp} {h h1 h2 h':Heap} {a x e:Addr} {o:HO}
theorem Un.any (u:Un fs ex H H1 h h1) {b:Addr} {ob:Obj} (q:h.get? b=some ob) (n:H b=none) (hx:b∉ex):∃ sl,h1.get? b=some {ob with slots:=sl}:=by
 by_cases hb:b∈fs
 ·exact u.slot b ob q n hb hx
 ·exact ⟨ob.slots,u.keep b ob q n hb hx⟩
theorem Un.kept (k:∀ b u,h.get? b=some u→h'.get? b=some u):Un fs ex H H h h':=
 ⟨fun b ob q _ _ _=>k b ob q,fun b ob q _ _ _=>⟨ob.slots,k b ob q⟩,fun _ _ _ n _=>n,fun b ob q _=>⟨ob,k b ob q⟩,fun _ _ q=>q,fun _ _ _ q=>q,fun _ ps q=>⟨#[],by rw [q];simp⟩⟩
theorem Un.refl:Un fs ex H H h h:=Un.kept fun _ _ q=>q
theorem Un.laid (k:∀ b u,h.get? b=some u→h'.get? b=some u) (hp:h.objs.size≤a) (hn:H a=none):Un fs ex H (upd H a o) h h' where
 keep:=fun b u q _ _ _=>k b u q
 slot:=fun b u q _ _ _=>⟨u.slots,k b u q⟩
 free:=fun b u q n _=>by rw [qm (A8 (Bi (Al q) hp))];exact n
 there:=fun b u q _=>⟨u,k b u q⟩
 tups:=fun b xs q=>by rw [qm (qx q hn)];exact q
 frzs:=fun b u xs q=>by rw [qm (qx q hn)];exact q
 tbls:=fun b ps q=>⟨#[],by rw [qm (qx q hn),q];simp⟩
theorem Un.write (mu:Mut (H x)) (he:e=x∨H e=some (.own x)) (k:∀ b u,b≠e→h.get? b=some u→h'.get? b=some u) (heo:∃ u,h'.get? e=some u):Un fs ex H (upd H x o) h h':=by
 have hx:∀ b,H b=none→b≠x:=fun b n z=>by subst z;rw [n] at mu;exact mu
 have hb:∀ b,H b=none→b≠e:=fun b n z=>by
  subst z;rcases he with r | r
  ·exact hx b n r
  ·rw [n] at r;cases r
 have hm:∀ b u,H b=some u→¬ Mut (some u)→b≠x:=fun b u q nm z=>by subst z;rw [q] at mu;exact nm mu
 refine ⟨fun b u q n _ _=>k b u (hb b n) q,fun b u q n _ _=>⟨u.slots,k b u (hb b n) q⟩,fun b u q n _=>by rw [qm (hx b n)];exact n,fun b u q _=>?_,
  fun b xs q=>by rw [qm (hm b _ q fun z=>z)];exact q,fun b u xs q=>by rw [qm (hm b _ q fun z=>z)];exact q,fun b ps q=>⟨#[],by rw [qm (hm b _ q fun z=>z),q];simp⟩⟩
 by_cases hbe:b=e
 ·subst hbe;exact heo
 ·exact ⟨u,k b u hbe q⟩
end
def trk (h:Heap) (H:Hp):List Addr:=(List.range h.objs.size).filter fun a=>(H a).isSome
def XN (h:Heap) (H:Hp):Heap:=PySem.W.hideAll h (trk h H)
theorem qcr (h:Heap) (H:Hp):(XN h H).objs.size=h.objs.size:=PySem.W.hideAll_size _ _
theorem qe6 {h:Heap} {H:Hp} {b:Addr} {o:Obj} (e:h.get? b=some o) (n:H b=none):(XN h H).get? b=some o:=
 Ea _ e fun hm=>by
  have q:(H b).isSome=true:=(Ev.mp hm).2;rw [n] at q;simp at q
theorem qg0 {h:Heap} {H:Hp} {b:Addr} {o:Obj} (e:(XN h H).get? b=some o):h.get? b=some o∧H b=none:=by
 have e':h.get? b=some o:=PySem.W.of_hideAll (trk h H) e;refine ⟨e',?_⟩;cases q:H b with
 | none=>rfl
 | some x=>
  have hm:b∈trk h H:=Ev.mpr ⟨Dg.mpr (Al e'),by simp [q]⟩
  have z:(XN h H).get? b=none:=PySem.W.hideAll_none (trk h H) hm;rw [z] at e;cases e
structure Mod (K:Frag) (mg:Str→Option Value) (base:Heap):Prop where
 kin:K.In base
 glob:base.Ns mainGlobals mg
 blt:∃ mb,base.Ns builtinsNs mb∧∀ x:Str,x≠"__name__"→mb x=bootBuiltins x
 nolimit:base.NoLimit
structure Cx where
 prog:Program
 w:World
 K:Frag
 mg:Str→Option Value
 base:Heap
 A:Around
 N:List Str
 s₀:Shared
 H₀:Hp
 env:Env
 outer:List Env
 stack:List Env
 ex:List Addr
 fn:Str→Bool
 calm:Bool
 pn:List (Addr×Obj)
 xe:Value→Shared→Prop
def frs (l:List Env):List Addr:=l.filterMap (·.frame)
abbrev Cx.fs (X:Cx):List Addr:=frs X.outer
def Vis (sc:Scope) (x:Str):Prop:=sc.names.lookup x=some .local∨sc.names.lookup x=some .cell∨sc.names.lookup x=some .free
def Loc (sc:Scope) (x:Str):Prop:=sc.names.lookup x=some .local∨sc.names.lookup x=some .cell
def Look (env:Env) (h:Heap) (m:Str→Option Value) (x:Str) (u:Value):Prop:=
 (env.kindOf x=some .local∧m x=some u)∨((env.kindOf x=some .cell∨env.kindOf x=some .free)∧∃ c,env.cells.lookup x=some c∧h.IsCell c (some u))
structure Cx.Ok (X:Cx):Prop where
 mod:Mod X.K X.mg X.base
 kind:X.env.scope.kind= .function
 glob:X.env.globals=mainGlobals
 blt:X.env.builtins=builtinsNs
 above:X.s₀.heap.objs.size≤X.env.locals
 inj:∀ x y c,X.env.cells.lookup x=some c→X.env.cells.lookup y=some c→x=y
 has:∀ x,(X.env.kindOf x=some .cell∨X.env.kindOf x=some .free)→∃ c,X.env.cells.lookup x=some c
 cab:∀ x c,X.fn x=true→X.env.cells.lookup x=some c→X.s₀.heap.objs.size≤c
 hd:X.calm=true→X.A.handled=none
 frames:X.A.frames=some X.stack
 stk:X.stack=X.outer∨(X.stack=X.env::X.outer∧X.env.frame=some X.env.locals)
 exf:∀ b∈X.ex,b≠X.env.locals∧∀ x c,X.env.cells.lookup x=some c→c≠b
 bs:∀ b o,X.base.get? b=some o→X.s₀.heap.get? b=some o∧X.H₀ b=none
 bsz:X.base.objs.size≤X.s₀.heap.objs.size
 noex:∀ b o,X.base.get? b=some o→b∉X.ex
 exfs:∀ b∈X.ex,b∉X.fs
 funs:X.s₀.heap.FunFrames X.base X.outer
 frf:∀ b∈X.fs,X.H₀ b=none
structure Inv (X:Cx) (pins:List (Addr×Obj)) (σ:List (Option V)) (H:Hp) (s:Shared):Prop where
 ok:X.Ok
 os:s.os=X.s₀.os
 bare:AllBare s.gens
 base:Un X.fs X.ex X.H₀ H X.s₀.heap s.heap
 loc:∃ m,s.heap.Ns X.env.locals m∧∀ (i:Nat) (x:Str) (v:V),X.N[i]?=some x→σ[i]?=some (some v)→Vis X.env.scope x→∃ u,qM v u∧Look X.env s.heap m x u
 cell:∀ x c,X.env.cells.lookup x=some c→∃ v,s.heap.IsCell c v
 free:H X.env.locals=none
 freeC:∀ x c,X.env.cells.lookup x=some c→H c=none
 pin:∀ p∈X.pn++pins,s.heap.get? p.1=some p.2∧H p.1=none∧p.1≠X.env.locals∧p.1∉X.fs∧∀ v,p.2.data≠ .cell v
 hok:HOk X.prog X.w H s.heap
 len:σ.length=X.N.length
section
variable {X:Cx} {pins:List (Addr×Obj)} {σ:List (Option V)} {H H':Hp} {s:Shared} {h':Heap}
theorem Cx.Ok.nofr (ok:X.Ok) {b:Addr} {o:Obj} (e:X.base.get? b=some o):b∉X.fs:=fun hb=>by
 have:=(ok.funs.mem hb).1;rw [e] at this;cases this
theorem Inv.bs (I:Inv X pins σ H s):∀ b o,X.base.get? b=some o→s.heap.get? b=some o∧H b=none:=fun b o e=>
 ⟨I.base.keep b o (I.ok.bs b o e).1 (I.ok.bs b o e).2 (I.ok.nofr e) (I.ok.noex b o e),I.base.free b o (I.ok.bs b o e).1 (I.ok.bs b o e).2 (I.ok.noex b o e)⟩
theorem Inv.bk (I:Inv X pins σ H s):∀ b o,X.base.get? b=some o→s.heap.get? b=some o:=fun b o e=>(I.bs b o e).1
theorem Inv.mod (I:Inv X pins σ H s):Mod X.K X.mg X.base:=I.ok.mod
theorem Inv.kIn (I:Inv X pins σ H s):X.K.In s.heap:=I.ok.mod.kin.keeps I.bk
theorem Inv.lt (I:Inv X pins σ H s):X.env.locals<s.heap.objs.size:=let ⟨_,hn,_⟩:=I.loc;hn.lt
theorem Inv.sz (I:Inv X pins σ H s):X.s₀.heap.objs.size≤s.heap.objs.size:=Av I.ok.above (Nat.le_of_lt I.lt)
theorem Inv.nofs (I:Inv X pins σ H s) {a:Addr} (h:s.heap.objs.size≤a):a∉X.fs:=fun hb=>by
 obtain ⟨_,o,ho,_⟩:=I.ok.funs.mem hb;exact absurd (Bi (Al ho) (Av I.sz h)) (D1 _)
theorem Inv.cne (I:Inv X pins σ H s):∀ x c,X.env.cells.lookup x=some c→c≠X.env.locals:=fun x c e z=>by
 obtain ⟨v,o,ho,hd⟩:=I.cell x c e;obtain ⟨m,⟨o',es,ep,ho',hd',_⟩,_⟩:=I.loc;rw [z,ho'] at ho;cases ho;rw [hd'] at hd;cases hd
theorem Inv.funs (I:Inv X pins σ H s):s.heap.FunFrames X.base X.outer:=by
 have all:∀ (l:List Env),(∀ b∈frs l,b∈X.fs)→X.s₀.heap.FunFrames X.base l→s.heap.FunFrames X.base l:=by
  intro l
  induction l with
  | nil=>intro _ _;trivial
  | cons env r ih=>
   intro hs hl;obtain ⟨hk,⟨L,o,hf,hn,ho,hd⟩,hr⟩:=hl;have hL:L∈X.fs:=hs L (by unfold frs;rw [Eb,hf];exact Au)
   obtain ⟨sl,e⟩:=I.base.slot L o ho (I.ok.frf L hL) hL fun z=>I.ok.exfs L z hL;exact ⟨hk,⟨L,_,hf,hn,e,hd⟩,ih (fun b hb=>hs b (by unfold frs;rw [Eb,hf];exact Am _ hb)) hr⟩
 exact all X.outer (fun _ hb=>hb) I.ok.funs
theorem Inv.stack (I:Inv X pins σ H s):s.heap.FunFrames X.base X.stack:=by
 rcases I.ok.stk with e | ⟨e,hf⟩
 ·rw [e];exact I.funs
 ·rw [e];obtain ⟨m,hn,_⟩:=I.loc;refine .cons (by rw [I.ok.kind];decide) hf hn ?_ I.funs
  exact C8 (Av I.ok.bsz I.ok.above)
theorem Inv.stkSub (I:Inv X pins σ H s):∀ b∈frs X.stack,b∈X.env.locals::X.fs:=fun b hb=>by
 rcases I.ok.stk with e | ⟨e,hf⟩
 ·rw [e] at hb;exact Am _ hb
 ·rw [e] at hb;unfold frs at hb;rw [Eb,hf] at hb;exact hb
theorem Inv.stkFree (I:Inv X pins σ H s):∀ b∈frs X.stack,H b=none:=fun b hb=>by
 rcases Ap.mp (I.stkSub b hb) with e | hb
 ·rw [e];exact I.free
 ·obtain ⟨_,o,ho,_⟩:=I.ok.funs.mem hb;exact I.base.free b o ho (I.ok.frf b hb) fun z=>I.ok.exfs b z hb
theorem Inv.step {g':Array GenState} {t':Nat} {d':Drawn} {ch:List Addr} (I:Inv X pins σ H s)
  (hch:∀ b∈ch,(b∈X.ex∨X.s₀.heap.objs.size≤b)∧b≠X.env.locals∧(∀ x c,X.env.cells.lookup x=some c→c≠b)∧∀ p∈X.pn++pins,p.1≠b)
  (keep:∀ b o,b≠X.env.locals→b∉X.fs→b∉ch→s.heap.get? b=some o→H b=none→h'.get? b=some o)
  (slot:∀ b o,b≠X.env.locals→b∈X.fs→b∉ch→s.heap.get? b=some o→H b=none→∃ sl,h'.get? b=some {o with slots:=sl}) (free:∀ b o,b∉ch→s.heap.get? b=some o→H b=none→H' b=none)
  (there:∀ b o,b∉ch→s.heap.get? b=some o→∃ o',h'.get? b=some o')
  (tups:∀ b xs,H b=some (.tup xs)→H' b=some (.tup xs)) (frzs:∀ b o u,H b=some (.frz o u)→H' b=some (.frz o u)) (tbls:∀ b ps,H b=some (.tbl ps)→∃ more,H' b=some (.tbl (ps++more)))
  (ns:∀ m,s.heap.Ns X.env.locals m→h'.Ns X.env.locals m) (hok:HOk X.prog X.w H' h') (hg:AllBare g'):
  Inv X pins σ H' {s with heap:=h',gens:=g',drawn:=d',toks:=t'}:=by
 have neL:∀ b o,X.s₀.heap.get? b=some o→b≠X.env.locals:=fun b o e=>A8 (Bi (Al e) I.ok.above);have neC:∀ b o,X.s₀.heap.get? b=some o→b∉X.ex→b∉ch:=fun b o e hx hb=>by
  rcases (hch b hb).1 with z | z
  ·exact hx z
  ·exact absurd (Bi (Al e) z) (D1 _)
 have cellK:∀ x c,X.env.cells.lookup x=some c→∀ v,s.heap.IsCell c v→h'.IsCell c v:=fun x c e v ⟨o,ho,hd⟩=>by
  have nch:c∉ch:=fun z=>(hch c z).2.2.1 x c e rfl
  by_cases hc:c∈X.fs
  ·obtain ⟨sl,q⟩:=slot c o (I.cne x c e) hc nch ho (I.freeC x c e);exact ⟨_,q,hd⟩
  ·exact ⟨o,keep c o (I.cne x c e) hc nch ho (I.freeC x c e),hd⟩
 refine ⟨I.ok,I.os,hg,⟨fun b o e n hb hx=>?_,fun b o e n hb hx=>?_,fun b o e n hx=>?_,fun b o e hx=>?_,fun b xs e=>tups b xs (I.base.tups b xs e),fun b o xs e=>frzs b o xs (I.base.frzs b o xs e),fun b ps e=>?_⟩,?_,fun x c e=>?_,?_,fun x c e=>?_,fun p hp=>?_,hok,I.len⟩
 ·exact keep b o (neL b o e) hb (neC b o e hx) (I.base.keep b o e n hb hx) (I.base.free b o e n hx)
 ·obtain ⟨sl,e1⟩:=I.base.slot b o e n hb hx;obtain ⟨sl',e2⟩:=slot b _ (neL b o e) hb (neC b o e hx) e1 (I.base.free b o e n hx);exact ⟨sl',e2⟩
 ·obtain ⟨o',e1⟩:=I.base.there b o e hx;exact free b o' (neC b o e hx) e1 (I.base.free b o e n hx)
 ·obtain ⟨o',e1⟩:=I.base.there b o e hx;exact there b o' (neC b o e hx) e1
 ·obtain ⟨m1,e1⟩:=I.base.tbls b ps e;obtain ⟨m2,e2⟩:=tbls b _ e1;exact ⟨m1++m2,by rw [e2,Array.append_assoc]⟩
 ·obtain ⟨m,hn,hl⟩:=I.loc;refine ⟨m,ns m hn,fun i x v e1 e2 e3=>?_⟩;obtain ⟨u,r,l⟩:=hl i x v e1 e2 e3;refine ⟨u,r,?_⟩;rcases l with l | ⟨k,c,e,z⟩
  ·exact .inl l
  ·exact .inr ⟨k,c,e,cellK x c e _ z⟩
 ·obtain ⟨v,z⟩:=I.cell x c e;exact ⟨v,cellK x c e v z⟩
 ·obtain ⟨m,⟨o,_,_,ho,_⟩,_⟩:=I.loc;exact free _ o (fun z=>(hch _ z).2.1 rfl) ho I.free
 ·obtain ⟨v,o,ho,hd⟩:=I.cell x c e;exact free c o (fun z=>(hch c z).2.2.1 x c e rfl) ho (I.freeC x c e)
 ·obtain ⟨e,n,ne,nf,d⟩:=I.pin p hp;have nch:p.1∉ch:=fun z=>(hch p.1 z).2.2.2 p hp rfl;exact ⟨keep p.1 p.2 ne nf nch e n,free p.1 p.2 nch e n,ne,nf,d⟩
theorem Inv.un {t':Nat} (I:Inv X pins σ H s) (u:Un X.fs [] H H' s.heap h') (hok:HOk X.prog X.w H' h'):Inv X pins σ H' {s with heap:=h',toks:=t'}:=by
 obtain ⟨m,⟨o,es,ep,ho,r⟩,_⟩:=id I.loc;obtain ⟨sl,hL⟩:=u.any ho I.free (by simp)
 exact I.step (g':=s.gens) (d':=s.drawn) (ch:=[]) (fun _ z=>nomatch z) (fun b o _ hb _ e n=>u.keep b o e n hb (by simp)) (fun b o _ hb _ e n=>u.slot b o e n hb (by simp)) (fun b o _ e n=>u.free b o e n (by simp)) (fun b o _ e=>u.there b o e (by simp)) u.tups u.frzs u.tbls (fun m' hm=>by
  obtain ⟨o',es',ep',ho',r'⟩:=hm;rw [ho] at ho';cases ho';exact ⟨_,es',ep',hL,r'⟩) hok I.bare
theorem Inv.call {g':Array GenState} {t':Nat} {d':Drawn} {ch:List Addr} (I:Inv X pins σ H s) (u:Un (frs X.stack) ch H H' s.heap h') (hok:HOk X.prog X.w H' h') (hg:AllBare g')
  (hch:∀ b∈ch,(b∈X.ex∨X.s₀.heap.objs.size≤b)∧b≠X.env.locals∧(∀ x c,X.env.cells.lookup x=some c→c≠b)∧∀ p∈X.pn++pins,p.1≠b):
  Inv X pins σ H' {s with heap:=h',gens:=g',drawn:=d',toks:=t'}:=by
 obtain ⟨m,⟨o,es,ep,ho,r⟩,_⟩:=id I.loc;obtain ⟨sl,hL⟩:=u.any ho I.free fun z=>(hch _ z).2.1 rfl;exact I.step (ch:=ch) hch (fun b o hL hb hc e n=>u.keep b o e n (fun z=>(Ap.mp (I.stkSub b z)).elim hL hb) hc) (fun b o _ _ hc e n=>u.any e n hc) (fun b o hc e n=>u.free b o e n hc) (fun b o hc e=>u.there b o e hc) u.tups u.frzs u.tbls (fun m' hm=>by
  obtain ⟨o',es',ep',ho',r'⟩:=hm;rw [ho] at ho';cases ho';exact ⟨_,es',ep',hL,r'⟩) hok hg
theorem Inv.turned {t':Nat} {it:Addr} (I:Inv X pins σ H s) (k:∀ b o,b≠it→s.heap.get? b=some o→h'.get? b=some o) (hn:H it=none) (hL:it≠X.env.locals)
  (h1:it∈X.ex∨X.s₀.heap.objs.size≤it) (h2:∀ x c,X.env.cells.lookup x=some c→c≠it) (h3:∀ p∈X.pn++pins,p.1≠it):Inv X pins σ H {s with heap:=h',toks:=t'}:=by
 have nit:∀ b u,H b=some u→b≠it:=fun b u e z=>by rw [z,hn] at e;cases e
 refine I.step (g':=s.gens) (d':=s.drawn) (ch:=[it]) (fun b hb=>?_) (fun b o _ _ hc e _=>k b o (fun z=>hc (by simp [z])) e) (fun b o _ _ hc e _=>⟨o.slots,k b o (fun z=>hc (by simp [z])) e⟩) (fun _ _ _ _ n=>n)
  (fun b o hc e=>⟨o,k b o (fun z=>hc (by simp [z])) e⟩) (fun _ _ e=>e) (fun _ _ _ e=>e) (fun b ps e=>⟨#[],by rw [e];simp⟩) (fun m hm=>?_) (fun b u e=>?_) I.bare
 ·have e:b=it:=by simpa using hb
  subst e;exact ⟨h1,hL,h2,h3⟩
 ·obtain ⟨o,es,ep,ho,r⟩:=hm;exact ⟨o,es,ep,k _ o (Ne.symm hL) ho,r⟩
 ·refine (I.hok b u e).stay (fun c v hc q=>k c v ?_ q) (fun _ q=>q) fun _ _ q=>q;rcases hc with z | z
  ·rw [z];exact nit b u e
  ·exact nit c _ z
theorem Inv.tok (I:Inv X pins σ H s) (t:Nat):Inv X pins σ H {s with toks:=t}:=I.un (h':=s.heap) (t':=t) Un.refl I.hok
theorem Inv.kept {t':Nat} (I:Inv X pins σ H s) (k:∀ b u,s.heap.get? b=some u→h'.get? b=some u):Inv X pins σ H {s with heap:=h',toks:=t'}:=I.un (Un.kept k) (I.hok.kept k)
theorem Inv.laid {a:Addr} {o:HO} {t':Nat} (I:Inv X pins σ H s) (k:∀ b u,s.heap.get? b=some u→h'.get? b=some u) (hp:s.heap.objs.size≤a) (new:zd X.prog X.w (upd H a o) h' a o):
  Inv X pins σ (upd H a o) {s with heap:=h',toks:=t'}:=I.un (Un.laid k hp (I.hok.fresh hp)) (I.hok.laid k hp new)
theorem Inv.write {x e:Addr} {o:HO} {t':Nat} (I:Inv X pins σ H s) (mu:Mut (H x)) (he:e=x∨H e=some (.own x)) (k:∀ b u,b≠e→s.heap.get? b=some u→h'.get? b=some u) (heo:∃ u,h'.get? e=some u)
  (new:zd X.prog X.w (upd H x o) h' x o):Inv X pins σ (upd H x o) {s with heap:=h',toks:=t'}:=I.un (Un.write mu he k heo) (I.hok.write mu he k heo new)
theorem Inv.weak {σ':List (Option V)} (I:Inv X pins σ H s) (hl:σ'.length=σ.length) (w:∀ (i:Nat) v,σ'[i]?=some (some v)→σ[i]?=some (some v)):Inv X pins σ' H s:=
 ⟨I.ok,I.os,I.bare,I.base,let ⟨m,hn,hl'⟩:=I.loc;⟨m,hn,fun i x v e1 e2 e3=>hl' i x v e1 (w i v e2) e3⟩,I.cell,I.free,I.freeC,I.pin,I.hok,hl.trans I.len⟩
theorem Inv.pins_of {pins':List (Addr×Obj)} (I:Inv X pins σ H s) (h:∀ p∈pins',s.heap.get? p.1=some p.2∧H p.1=none∧p.1≠X.env.locals∧p.1∉X.fs∧∀ v,p.2.data≠ .cell v):Inv X pins' σ H s:=
 ⟨I.ok,I.os,I.bare,I.base,I.loc,I.cell,I.free,I.freeC,fun p hp=>(Bl.mp hp).elim (fun z=>I.pin p (B7 _ z)) (h p),I.hok,I.len⟩
theorem ZN {N:List Str} (hN:N.Nodup) {i j:Nat} {x:Str} (a:N[i]?=some x) (b:N[j]?=some x):i=j:=by
 obtain ⟨h1,e1⟩:=B2.mp a;obtain ⟨h2,e2⟩:=B2.mp b;exact (List.getElem_inj hN).mp (e1.trans e2.symm)
theorem YH {M:Model} {A:Around} {E:Value→Shared→Prop} {i:Nat} {x:Str} {v:V} {u:Value} {Q:Unit→Shared→Prop} (I:Inv X pins σ H s) (hN:X.N.Nodup) (hi:X.N[i]?=some x) (hx:Loc X.env.scope x) (r:qM v u)
  (h:∀ s',Inv X pins (σ.set i (some v)) H s'→(∃ a,Heap.SameBut a s.heap s'.heap∧(a=X.env.locals∨X.env.cells.lookup x=some a))→Q () s') (hf:X.fn x=true∨X.env.scope.names.lookup x=some .local:=by first | exact .inl rfl | exact .inr rfl | assumption):wpAny M A (storeName X.env x u) Q E s:=by
 obtain ⟨m,hn,hl⟩:=id I.loc;have hcls:(X.env.scope.kind== .class||(X.env.scope.kind== .module&&X.env.locals !=X.env.globals))=false:=by rw [I.ok.kind];rfl
 have hiσ:i<σ.length:=by rw [I.len];exact (B2.mp hi).1
 have cne:=I.cne;have tracked:∀ {a:Addr} {h':Heap},(∃ o,s.heap.get? a=some o∧H a=none)→Heap.SameBut a s.heap h'→HOk X.prog X.w H h':=fun {a h'} ha hs b ob e=>by
  obtain ⟨_,_,hfree⟩:=ha;refine (I.hok b ob e).stay (fun c w' hc q=>(hs.2 c ?_).trans q) (fun _ q=>q) fun _ _ q=>q;rintro rfl;rcases hc with rfl | hc
  ·rw [hfree] at e;cases e
  ·rw [hfree] at hc;cases hc
 rcases hx with hk | hk
 ·refine wpAny_storeName_local hk hn (fun h' hn' hs=>?_) hcls;obtain ⟨oL,_,_,hoL,_⟩:=id hn;refine h _ ⟨I.ok,I.os,I.bare,⟨fun b o e n hb hx=>?_,fun b o e n hb hx=>?_,I.base.free,fun b o e hx=>?_,I.base.tups,I.base.frzs,I.base.tbls⟩,⟨_,hn',fun j y v' e1 e2 e3=>?_⟩,fun y c e=>?_,I.free,I.freeC,fun p hp=>?_,tracked ⟨oL,hoL,I.free⟩ hs,by simpa using I.len⟩ ⟨_,hs,.inl rfl⟩
  ·exact (hs.2 b (A8 (Bi (Al e) I.ok.above))).trans (I.base.keep b o e n hb hx)
  ·obtain ⟨sl,e1⟩:=I.base.slot b o e n hb hx;exact ⟨sl,(hs.2 b (A8 (Bi (Al e) I.ok.above))).trans e1⟩
  ·obtain ⟨o',e1⟩:=I.base.there b o e hx;exact ⟨o',(hs.2 b (A8 (Bi (Al e) I.ok.above))).trans e1⟩
  ·by_cases hj:j=i
   ·subst hj;rw [hi] at e1;cases e1;rw [List.getElem?_set_self hiσ] at e2;cases e2;exact ⟨u,r,.inl ⟨hk,by simp⟩⟩
   ·rw [D7 (Ne.symm hj)] at e2;obtain ⟨u',r',q⟩:=hl j y v' e1 e2 e3;refine ⟨u',r',?_⟩;rcases q with ⟨k,e⟩ | ⟨k,c,e,z⟩
    ·refine .inl ⟨k,?_⟩;have:y≠x:=fun e=>hj (ZN hN e1 (e▸hi));simp [this,e]
    ·exact .inr ⟨k,c,e,z.sameBut hs (cne y c e)⟩
  ·obtain ⟨w',z⟩:=I.cell y c e;exact ⟨w',z.sameBut hs (cne y c e)⟩
  ·obtain ⟨e,n,ne,nf,d⟩:=I.pin p hp;exact ⟨(hs.2 p.1 ne).trans e,n,ne,nf,d⟩
 ·have hfn:X.fn x=true:=by
   rcases hf with z | z
   ·exact z
   ·rw [z] at hk;cases hk
  obtain ⟨c,hc⟩:=I.ok.has x (.inl hk);obtain ⟨w',z⟩:=I.cell x c hc;refine wpAny_storeName_cell I.ok.kind hk hc z (fun h' hc' hs=>?_);obtain ⟨oc,hoc,hocd⟩:=id z;refine h {s with heap:=h'} ⟨I.ok,I.os,I.bare,⟨fun b o e n hb hx=>?_,fun b o e n hb hx=>?_,I.base.free,fun b o e hx=>?_,I.base.tups,I.base.frzs,I.base.tbls⟩,⟨m,hn.sameBut hs (Ne.symm (cne x c hc)),fun j y v' e1 e2 e3=>?_⟩,fun y c' e=>?_,I.free,I.freeC,fun p hp=>?_,tracked ⟨oc,hoc,I.freeC x c hc⟩ hs,by simpa using I.len⟩ ⟨c,hs,.inr hc⟩
  ·exact (hs.2 b (A8 (Bi (Al e) (I.ok.cab x c hfn hc)))).trans (I.base.keep b o e n hb hx)
  ·obtain ⟨sl,e1⟩:=I.base.slot b o e n hb hx;exact ⟨sl,(hs.2 b (A8 (Bi (Al e) (I.ok.cab x c hfn hc)))).trans e1⟩
  ·obtain ⟨o',e1⟩:=I.base.there b o e hx;exact ⟨o',(hs.2 b (A8 (Bi (Al e) (I.ok.cab x c hfn hc)))).trans e1⟩
  ·by_cases hj:j=i
   ·subst hj;rw [hi] at e1;cases e1;rw [List.getElem?_set_self hiσ] at e2;cases e2;exact ⟨u,r,.inr ⟨.inl hk,c,hc,hc'⟩⟩
   ·rw [D7 (Ne.symm hj)] at e2;obtain ⟨u',r',q⟩:=hl j y v' e1 e2 e3;refine ⟨u',r',?_⟩;rcases q with q | ⟨k,c',e,z'⟩
    ·exact .inl q
    ·refine .inr ⟨k,c',e,z'.sameBut hs ?_⟩;rintro rfl;exact hj (ZN hN e1 (I.ok.inj _ _ _ e hc▸hi))
  ·by_cases hcc:c'=c
   ·subst hcc;exact ⟨_,hc'⟩
   ·obtain ⟨w2,z2⟩:=I.cell y c' e;exact ⟨w2,z2.sameBut hs hcc⟩
  ·obtain ⟨e,n,ne,nf,d⟩:=I.pin p hp;refine ⟨(hs.2 p.1 ?_).trans e,n,ne,nf,d⟩;intro q;rw [q,hoc] at e;have q':oc=p.2:=Be e;exact d w' (by rw [← q'];exact hocd)
theorem VQ {M:Model} {A:Around} {E:Value→Shared→Prop} {i:Nat} {x:Str} {v:V} {u:Value} {Q:Unit→Shared→Prop} (I:Inv X pins σ H s) (hN:X.N.Nodup) (hi:X.N[i]?=some x) (hx:Loc X.env.scope x) (r:qM v u)
  (h:∀ s',Inv X pins (σ.set i (some v)) H s'→Q () s') (hf:X.fn x=true∨X.env.scope.names.lookup x=some .local:=by first | exact .inl rfl | exact .inr rfl | assumption):wpAny M A (storeName X.env x u) Q E s:=
 YH I hN hi hx r (fun s' I' _=>h s' I') hf
theorem Inv.call' {s':Shared} {ch:List Addr} (I:Inv X pins σ H s) (ho:s'.os=s.os) (u:Un (frs X.stack) ch H H' s.heap s'.heap) (hok:HOk X.prog X.w H' s'.heap) (hg:AllBare s'.gens)
  (hch:∀ b∈ch,(b∈X.ex∨X.s₀.heap.objs.size≤b)∧b≠X.env.locals∧(∀ x c,X.env.cells.lookup x=some c→c≠b)∧∀ p∈X.pn++pins,p.1≠b):Inv X pins σ H' s':=by
 obtain ⟨h',g',d',t',o'⟩:=s';have e:o'=s.os:=ho;subst e;exact I.call (g':=g') (t':=t') (d':=d') u hok hg hch
end
abbrev XK:=Value→Option Addr→Hp→Prop
abbrev St:=List (Option V)
abbrev VK:=V→Hp→Prop
abbrev TE:=St→Hp→VK→Prop
abbrev TT:=St→Hp→(Bool→Hp→Prop)→Prop
abbrev TA:=St→Hp→(List V→Hp→Prop)→Prop
structure Ends where
 nx:St→Hp→Prop
 rt:VK
 bk:St→Hp→Prop:=fun _ _=>False
 ct:St→Hp→Prop:=fun _ _=>False
abbrev TS:=Ends→St→Hp→Prop
def EP (X:Cx) (pins:List (Addr×Obj)) (σ:St) (Q:VK) (u:Value) (s':Shared):Prop:=∃ v H',Inv X pins σ H' s'∧qM v u∧Q v H'
def TP (X:Cx) (pins:List (Addr×Obj)) (σ:St) (Q:Bool→Hp→Prop) (b:Bool) (s':Shared):Prop:=∃ H',Inv X pins σ H' s'∧Q b H'
def AP (X:Cx) (pins:List (Addr×Obj)) (σ:St) (Q:List V→Hp→Prop) (us:List Value) (s':Shared):Prop:=∃ vs H',Inv X pins σ H' s'∧qP vs us∧Q vs H'
def SP (X:Cx) (pins:List (Addr×Obj)) (D:Ends) (f:Flow) (s':Shared):Prop:=
 match f with
 | .next=>∃ σ' H',Inv X pins σ' H' s'∧D.nx σ' H'
 | .brk=>∃ σ' H',Inv X pins σ' H' s'∧D.bk σ' H'
 | .cont=>∃ σ' H',Inv X pins σ' H' s'∧D.ct σ' H'
 | .ret u=>∃ v σ' H',Inv X pins σ' H' s'∧qM v u∧D.rt v H'
def PE (X:Cx) (e:Expr) (t:TE):Prop:=
 ∀ (pins:List (Addr×Obj)) (s:Shared) (σ:St) (H:Hp) (Q:VK),Inv X pins σ H s→t σ H Q→wpAny (model X.prog X.w) X.A (eval e X.env) (EP X pins σ Q) X.xe s
def PT (X:Cx) (e:Expr) (t:TT):Prop:=
 ∀ (pins:List (Addr×Obj)) (s:Shared) (σ:St) (H:Hp) (Q:Bool→Hp→Prop),Inv X pins σ H s→t σ H Q→wpAny (model X.prog X.w) X.A (isTrue e X.env (eval e X.env)) (TP X pins σ Q) X.xe s
def PW (X:Cx) (e:Expr) (t:TT):Prop:=
 ∀ (whole:Sem Value) (pins:List (Addr×Obj)) (s:Shared) (σ:St) (H:Hp) (Q:Bool→Hp→Prop),Inv X pins σ H s→t σ H Q→wpAny (model X.prog X.w) X.A (isTrue e X.env whole) (TP X pins σ Q) X.xe s
theorem PW.pt {X:Cx} {e:Expr} {t:TT} (h:PW X e t):PT X e t:=h _
def PA (X:Cx) (es:List Expr) (t:TA):Prop:=
 ∀ (pos:Pos) (pins:List (Addr×Obj)) (s:Shared) (σ:St) (H:Hp) (Q:List V→Hp→Prop),Inv X pins σ H s→t σ H Q→wpAny (model X.prog X.w) X.A (spliced (backTo pos (starEach es X.env))) (AP X pins σ Q) X.xe s
def PS (X:Cx) (st:Stmt) (t:TS):Prop:=
 ∀ (pins:List (Addr×Obj)) (s:Shared) (σ:St) (H:Hp) (D:Ends),Inv X pins σ H s→t D σ H→wpAny (model X.prog X.w) X.A (exec st X.env) (SP X pins D) X.xe s
def PSs (X:Cx) (st:List Stmt) (t:TS):Prop:=
 ∀ (pins:List (Addr×Obj)) (s:Shared) (σ:St) (H:Hp) (D:Ends),Inv X pins σ H s→t D σ H→wpAny (model X.prog X.w) X.A (execs st X.env) (SP X pins D) X.xe s
theorem thn {α:Type} {t:Sem α} {Q Q':α→Shared→Prop} {M:Model} {A:Around} {E:Value→Shared→Prop} {s:Shared} (h:wpAny M A t Q E s) (hQ:∀ a s,Q a s→Q' a s):wpAny M A t Q' E s:=Bq h hQ fun _ _ x=>x
section
variable {X:Cx}
def qg (i:Nat):TE:=fun σ H Q=>∃ v,σ[i]?=some (some v)∧Q v H
def tC (v:V):TE:=fun _ H Q=>Q v H
theorem qiu {i:Nat} {x:Str} {pos:Pos} (hN:X.N[i]?=some x) (hv:Vis X.env.scope x) (hd:(x==("__debug__":Str))=false:=by decide) (hcd:(x==("__classdict__":Str))=false:=by decide):PE X (.Name x pos) (qg i):=by
 intro pins s σ H Q I h;obtain ⟨v,e,h⟩:=h;obtain ⟨m,hn,hl⟩:=I.loc;obtain ⟨u,r,l⟩:=hl i x v hN e hv;have fin:EP X pins σ Q u s:=⟨v,H,I,r,h⟩;rcases l with ⟨hk,hm⟩ | ⟨hk,c,hc,hcell⟩
 ·exact wpAny_Name (wpAny_loadName_local I.ok.kind hk hn hm fin) hd
 ·rcases hk with hk | hk
  ·exact wpAny_Name (wpAny_loadName_cell I.ok.kind hk hc hcell fin) hd
  ·exact wpAny_Name (wpAny_loadName_free I.ok.kind hk hc hcell fin hcd) hd
theorem qh {i j pos}:PE X (.Constant (.int i) j pos) (tC (.int i)):=fun _ _ _ H _ I h=>wpAny_Constant_int ⟨.int i,H,I.tok _,⟨_,rfl⟩,h⟩
theorem jZ {b j pos}:PE X (.Constant (.bool b) j pos) (tC (.bl b)):=fun _ _ _ H _ I h=>Constant_bool ⟨.bl b,H,I,rfl,h⟩
theorem J6 {j pos}:PE X (.Constant .none j pos) (tC .non):=fun _ _ _ H _ I h=>Constant_none ⟨.non,H,I,rfl,h⟩
theorem qp {x j pos}:PE X (.Constant (.str x) j pos) (tC (.str x)):=fun _ _ _ H _ I h=>Calls.Constant_str ⟨.str x,H,I.tok _,⟨_,rfl⟩,h⟩
def Gl (X:Cx) (x:Str):Prop:=X.env.kindOf x=some .globalImplicit
theorem JD {E:Value→Shared→Prop} {pins:List (Addr×Obj)} {s:Shared} {σ:St} {H:Hp} {x:Str} {u:Value} {pos:Pos} {Q:Value→Shared→Prop} (I:Inv X pins σ H s) (hg:Gl X x) (hm:X.mg x=some u) (h:Q u s)
  (hd:(x==("__debug__":Str))=false:=by decide):wpAny (model X.prog X.w) X.A (eval (.Name x pos) X.env) Q E s:=
 Calls.Name_function_global I.ok.kind hg (Calls.loadGlobal_global (by rw [I.ok.glob];exact I.mod.glob.keeps I.bk) hm h) hd
theorem JL {E:Value→Shared→Prop} {pins:List (Addr×Obj)} {s:Shared} {σ:St} {H:Hp} {x:Str} {u:Value} {pos:Pos} {Q:Value→Shared→Prop} (I:Inv X pins σ H s) (hg:Gl X x) (hm:X.mg x=none) (hv:bootBuiltins x=some u) (h:Q u s)
  (hn:x≠"__name__":=by decide) (hd:(x==("__debug__":Str))=false:=by decide):wpAny (model X.prog X.w) X.A (eval (.Name x pos) X.env) Q E s:=by
 obtain ⟨mb,h1,h2⟩:=I.mod.blt;exact Calls.Name_function_global I.ok.kind hg (Calls.loadGlobal_builtin (by rw [I.ok.glob];exact I.mod.glob.keeps I.bk) hm (by rw [I.ok.blt];exact h1.keeps I.bk) ((h2 x hn).trans hv) h) hd
theorem qas {x:Str} {v:V} {u:Value} {pos:Pos} (hg:Gl X x) (hm:X.mg x=some u) (r:qM v u) (hd:(x==("__debug__":Str))=false:=by decide):PE X (.Name x pos) (tC v):=
 fun _ _ _ H _ I h=>JD I hg hm ⟨v,H,I,r,h⟩ hd
theorem qgx {x:Str} {v:V} {u:Value} {pos:Pos} (hg:Gl X x) (hm:X.mg x=none) (hv:bootBuiltins x=some u) (r:qM v u) (hn:x≠"__name__":=by decide) (hd:(x==("__debug__":Str))=false:=by decide):PE X (.Name x pos) (tC v):=
 fun _ _ _ H _ I h=>JL I hg hm hv ⟨v,H,I,r,h⟩ hn hd
variable {a b:Expr} {ta tb:TE} {pos:Pos}
def PC (X:Cx) (op:CmpOp) (a b:Expr) (t:TE):Prop:=
 ∀ (pins:List (Addr×Obj)) (s:Shared) (σ:St) (H:Hp) (Q:VK),Inv X pins σ H s→t σ H Q→
  wpAny (model X.prog X.w) X.A (eval a X.env) (fun v s₁=>wpAny (model X.prog X.w) X.A (eval b X.env) (fun u s₂=>wpAny (model X.prog X.w) X.A (compareOp op v u) (EP X pins σ Q) X.xe s₂) X.xe s₁) X.xe s
def tB (t:TE):TT:=fun σ H Q=>t σ H fun x H1=>∃ c,x= .bl c∧Q c H1
theorem qin {op:CmpOp} {t:TE} (h:PC X op a b t) (h1:behindInMarks op b=false:=by first | exact nobehind _ O0 O0 | rfl):PT X (.Compare a [op] [b] pos) (tB t):=by
 intro pins s σ H Q I hw;refine wpAny_isTrue_Compare1 (thn (h pins s σ H _ I hw) fun v s1 h1=>thn h1 fun u s2 h2=>thn h2 fun c s3 ⟨x,H1,I1,r1,q1⟩=>?_) h1;obtain ⟨d,rfl,q⟩:=q1;cases r1;exact Cl ⟨H1,I1,q⟩
theorem zZ {e:Expr} {t:TE} (h:PE X e t) (he:∀ whole,isTrue e X.env whole=(do let v ← whole;standAt e.pos;holding [v] (truthy v)):=by intro _;rfl):PT X e (tB t):=by
 intro pins s σ H Q I hw;refine isTrue_plain (thn (h pins s σ H _ I hw) fun v s1 ⟨x,H1,I1,r1,q1⟩=>?_) (he _);obtain ⟨d,rfl,q⟩:=q1;cases r1;exact Cl ⟨H1,I1,q⟩
variable {tA tB':TT} {rest:List Expr}
def VP (t u:TT):TT:=fun σ H Q=>t σ H fun c H1=>if c=true then u σ H1 Q else Q false H1
def tOr (t u:TT):TT:=fun σ H Q=>t σ H fun c H1=>if c=true then Q true H1 else u σ H1 Q
def qdr (t:TT):TT:=fun σ H Q=>t σ H fun c H1=>Q (!c) H1
theorem JB (ha:PT X a tA):PW X (.BoolOp .And [a] pos) tA:=by
 intro wh pins s σ H Q I h;refine isTrue_and (thn (ha pins s σ H Q I h) fun c s1 e=>?_);cases c with
 | true=>exact isTrue_and_nil e
 | false=>exact e
theorem JK (ha:PT X a tA):PW X (.BoolOp .Or [a] pos) tA:=by
 intro wh pins s σ H Q I h;refine isTrue_or (thn (ha pins s σ H Q I h) fun c s1 e=>?_);cases c with
 | false=>exact isTrue_or_nil e
 | true=>exact e
theorem J4 (ha:PT X a tA) (hb:PW X (.BoolOp .And (b::rest) pos) tB'):PW X (.BoolOp .And (a::b::rest) pos) (VP tA tB'):=by
 intro wh pins s σ H Q I h;refine isTrue_and (thn (ha pins s σ H _ I h) fun c s1 ⟨H1,I1,q1⟩=>?_);cases c with
 | true=>exact hb wh pins s1 σ H1 Q I1 q1
 | false=>exact ⟨H1,I1,q1⟩
theorem ve (ha:PT X a tA) (hb:PW X (.BoolOp .Or (b::rest) pos) tB'):PW X (.BoolOp .Or (a::b::rest) pos) (tOr tA tB'):=by
 intro wh pins s σ H Q I h;refine isTrue_or (thn (ha pins s σ H _ I h) fun c s1 ⟨H1,I1,q1⟩=>?_);cases c with
 | true=>exact ⟨H1,I1,q1⟩
 | false=>exact hb wh pins s1 σ H1 Q I1 q1
theorem jM (ha:PT X a tA):PT X (.UnaryOp .Not a pos) (qdr tA):=by
 intro pins s σ H Q I h;exact isTrue_not (ha pins s σ H (fun c H1=>Q (!c) H1) I h)
def Zm (ta tb:TE):TE:=fun σ H Q=>ta σ H fun x H1=>∃ c,x= .bl c∧if c=true then tb σ H1 Q else Q (.bl false) H1
def qj9 (ta tb:TE):TE:=fun σ H Q=>ta σ H fun x H1=>∃ c,x= .bl c∧if c=true then Q (.bl true) H1 else tb σ H1 Q
theorem Vr {op} {t:TE} (h:PE X a t):PE X (.BoolOp op [a] pos) t:=fun pins s σ H Q I hw=>BoolOp_one (h pins s σ H Q I hw)
theorem Vt (ha:PE X a ta) (hb:PE X (.BoolOp .And (b::rest) pos) tb):PE X (.BoolOp .And (a::b::rest) pos) (Zm ta tb):=by
 intro pins s σ H Q I h;refine BoolOp_and (thn (ha pins s σ H _ I h) fun v s1 ⟨x,H1,I1,r1,q1⟩=>?_);obtain ⟨c,rfl,q1⟩:=q1;cases r1;refine Cl ?_;cases c with
 | true=>exact hb pins s1 σ H1 Q I1 q1
 | false=>exact ⟨.bl false,H1,I1,rfl,q1⟩
theorem qhx (ha:PE X a ta) (hb:PE X (.BoolOp .Or (b::rest) pos) tb):PE X (.BoolOp .Or (a::b::rest) pos) (qj9 ta tb):=by
 intro pins s σ H Q I h;refine BoolOp_or (thn (ha pins s σ H _ I h) fun v s1 ⟨x,H1,I1,r1,q1⟩=>?_);obtain ⟨c,rfl,q1⟩:=q1;cases r1;refine Cl ?_;cases c with
 | false=>exact hb pins s1 σ H1 Q I1 q1
 | true=>exact ⟨.bl true,H1,I1,rfl,q1⟩
def tIf (t:TT) (ta tb:TE):TE:=fun σ H Q=>t σ H fun c H1=>if c=true then ta σ H1 Q else tb σ H1 Q
theorem ZB {c:Expr} (hc:PT X c tA) (ha:PE X a ta) (hb:PE X b tb):PE X (.IfExp c a b pos) (tIf tA ta tb):=by
 intro pins s σ H Q I h;refine wpAny_IfExp (thn (hc pins s σ H _ I h) fun d s1 ⟨H1,I1,q1⟩=>?_);cases d with
 | true=>exact ha pins s1 σ H1 Q I1 q1
 | false=>exact hb pins s1 σ H1 Q I1 q1
end
def SqL (K:Frag) (H:Hp) (a:Addr) (xs:List V):Prop:=
 Rd H a (.lst xs)∨
  ∃ (o:Obj) (its:Array Value) (n:Nat),K.lookup a=some o∧o.cls= .type "list"∧o.dict=none∧o.data= .seq its n∧its.size≤sizeLine∧qP xs its.toList
def SqT (K:Frag) (H:Hp) (a:Addr) (xs:List V):Prop:=
 Rd H a (.tup xs)∨
  ∃ (o:Obj) (its:Array Value) (n:Nat),K.lookup a=some o∧o.cls= .type "tuple"∧o.data= .seq its n∧its.size≤sizeLine∧qP xs its.toList
def absV:Value→Option V
 | .none=>some .non
 | .bool b=>some (.bl b)
 | .int i _=>some (.int i)
 | .str x _=>some (.str x)
 | .bytes b _=>some (.byt b)
 | .float b _=>some (.flt b)
 | .ref a=>some (.ref a)
 | .type n=>some (.ty n)
 | _=>none
theorem qM.abs {x:V} {u:Value} (r:qM x u):absV u=some x:=by
 cases x with
 | non=>cases r;rfl
 | bl _=>cases r;rfl
 | int _=>obtain ⟨t,rfl⟩:=r;rfl
 | str _=>obtain ⟨t,rfl⟩:=r;rfl
 | byt _=>obtain ⟨t,rfl⟩:=r;rfl
 | flt _=>obtain ⟨t,rfl⟩:=r;rfl
 | ref _=>cases r;rfl
 | ty _=>cases r;rfl
theorem qM.inj {x y:V} {u:Value} (r:qM x u) (q:qM y u):x=y:=Be (r.abs.symm.trans q.abs)
theorem qP.inj:∀ {xs ys:List V} {us:List Value},qP xs us→qP ys us→xs=ys
 | _,_,_,.nil,.nil=>rfl
 | _,_,_,.cons r t,.cons r' t'=>by rw [r.inj r',qP.inj t t']
section
variable {X:Cx} {pins:List (Addr×Obj)} {σ:St} {H:Hp} {s:Shared} {a:Addr} {xs ys:List V}
theorem SqL.of {K:Frag} (h:H a=some (.lst xs)):SqL K H a xs:= .inl (.inl h)
theorem SqT.of {K:Frag} (h:H a=some (.tup xs)):SqT K H a xs:= .inl (.inl h)
theorem Inv.list (I:Inv X pins σ H s) (h:SqL X.K H a xs):∃ its:List Value,qP xs its∧PlainL s.heap a its.toArray∧xs.length≤sizeLine:=by
 rcases h with h | ⟨o,its,n,hk,hc,hd,hs,hz,r⟩
 ·obtain ⟨z,its,n,r,e⟩:=h.ok I.hok;exact ⟨its,r,⟨_,n,e,rfl,rfl,rfl⟩,z⟩
 ·refine ⟨its.toList,r,⟨o,n,I.kIn a o hk,hc,hd,by simpa using hs⟩,?_⟩
  have e:=r.length;simp only [Dp] at e;omega
theorem Inv.tuple (I:Inv X pins σ H s) (h:SqT X.K H a xs):∃ its:List Value,qP xs its∧IsTup s.heap a its.toArray∧xs.length≤sizeLine:=by
 rcases h with h | ⟨o,its,n,hk,hc,hs,hz,r⟩
 ·obtain ⟨z,its,r,p⟩:=h.ok I.hok;exact ⟨its,r,p,z⟩
 ·refine ⟨its.toList,r,⟨o,I.kIn a o hk,hc,n,by simpa using hs⟩,?_⟩
  have e:=r.length;simp only [Dp] at e;omega
theorem Inv.list_inj (I:Inv X pins σ H s) (h:SqL X.K H a xs) (h':SqL X.K H a ys):xs=ys:=by
 obtain ⟨its,r,⟨o,n,e,_,_,d⟩,_⟩:=I.list h;obtain ⟨its',r',⟨o',n',e',_,_,d'⟩,_⟩:=I.list h';rw [e] at e';cases e';rw [d] at d';injection d' with d1 _
 have:its=its':=by simpa using congrArg Array.toList d1
 subst this;exact r.inj r'
theorem Inv.tuple_inj (I:Inv X pins σ H s) (h:SqT X.K H a xs) (h':SqT X.K H a ys):xs=ys:=by
 obtain ⟨its,r,⟨o,e,_,n,d⟩,_⟩:=I.tuple h;obtain ⟨its',r',⟨o',e',_,n',d'⟩,_⟩:=I.tuple h';rw [e] at e';cases e';rw [d] at d';injection d' with d1 _
 have:its=its':=by simpa using congrArg Array.toList d1
 subst this;exact r.inj r'
end
abbrev Cx.wish (X:Cx) (E:Value→Shared→Prop):Cx:={X with xe:=E}
abbrev Cx.nox (X:Cx):Cx:=X.wish fun _ _=>False
theorem Cx.Ok.wish {X:Cx} (ok:X.Ok) (E:Value→Shared→Prop):(X.wish E).Ok:=
 ⟨ok.mod,ok.kind,ok.glob,ok.blt,ok.above,ok.inj,ok.has,ok.cab,ok.hd,ok.frames,ok.stk,ok.exf,ok.bs,ok.bsz,ok.noex,ok.exfs,ok.funs,ok.frf⟩
theorem Cx.Ok.unwish {X:Cx} {E:Value→Shared→Prop} (ok:(X.wish E).Ok):X.Ok:=
 ⟨ok.mod,ok.kind,ok.glob,ok.blt,ok.above,ok.inj,ok.has,ok.cab,ok.hd,ok.frames,ok.stk,ok.exf,ok.bs,ok.bsz,ok.noex,ok.exfs,ok.funs,ok.frf⟩
section
variable {X:Cx} {pins:List (Addr×Obj)} {σ:St} {H:Hp} {s:Shared} {E:Value→Shared→Prop}
theorem Inv.wish (I:Inv X pins σ H s) (E:Value→Shared→Prop):Inv (X.wish E) pins σ H s:=⟨I.ok.wish E,I.os,I.bare,I.base,I.loc,I.cell,I.free,I.freeC,I.pin,I.hok,I.len⟩
theorem Inv.unwish (I:Inv (X.wish E) pins σ H s):Inv X pins σ H s:=⟨I.ok.unwish,I.os,I.bare,I.base,I.loc,I.cell,I.free,I.freeC,I.pin,I.hok,I.len⟩
theorem SP.unwish {D:Ends} {f:Flow} {s':Shared} (h:SP (X.wish E) pins D f s'):SP X pins D f s':=by
 cases f with
 | next=>obtain ⟨σ',H',I,q⟩:=h;exact ⟨σ',H',I.unwish,q⟩
 | brk=>obtain ⟨σ',H',I,q⟩:=h;exact ⟨σ',H',I.unwish,q⟩
 | cont=>obtain ⟨σ',H',I,q⟩:=h;exact ⟨σ',H',I.unwish,q⟩
 | ret u=>obtain ⟨v,σ',H',I,r,q⟩:=h;exact ⟨v,σ',H',I.unwish,r,q⟩
theorem PSs.nox {st:List Stmt} {t:TS} (h:PSs X.nox st t):PSs X st t:=fun pins s σ H D I hw=>
 Bq (h pins s σ H D (I.wish _) hw) (fun _ _ q=>q.unwish) fun _ _ z=>False.elim z
end
section
variable {X:Cx} {st:Stmt} {rest:List Stmt} {t u:TS} {e:Expr} {te:TE} {pos:Pos}
def zg:TS:=fun D σ H=>D.nx σ H
def qG (t u:TS):TS:=fun D σ H=>t {D with nx:=u D} σ H
theorem qB:PSs X [] zg:=fun _ _ σ H _ I h=>wpAny_execs_nil ⟨σ,H,I,h⟩
theorem qf (h1:PS X st t) (h2:PSs X rest u):PSs X (st::rest) (qG t u):=by
 intro pins s σ H D I h;refine wpAny_execs_cons (thn (h1 pins s σ H {D with nx:=u D} I h) fun f s1 q=>?_)
 cases f with
 | next=>
  obtain ⟨σ',H',I',q⟩:=q;exact h2 pins s1 σ' H' D I' q
 | ret v=>exact q
 | brk=>exact q
 | cont=>exact q
theorem qi (h1:PS X st t):PSs X [st] t:=by
 intro pins s σ H D I h;refine wpAny_execs_cons (thn (h1 pins s σ H D I h) fun f s1 q=>?_);cases f with
 | next=>exact wpAny_execs_nil q
 | ret v=>exact q
 | brk=>exact q
 | cont=>exact q
theorem Inv.quiet {pins:List (Addr×Obj)} {σ:St} {H:Hp} {s:Shared} (I:Inv X pins σ H s):interactive X.env=false:=by simp [interactive,I.ok.kind]
def zQ (te:TE):TS:=fun D σ H=>te σ H fun _ H1=>D.nx σ H1
theorem za (he:PE X e te) (hs:swapsWith e none pos.line X.env=pure false:=by rfl):PS X (.Expr e pos) (zQ te):=by
 intro pins s σ H D I h;exact wpAny_Expr_any (thn (he pins s σ H _ I h) fun v s1 ⟨x,H1,I1,r1,q1⟩=>⟨σ,H1,I1,q1⟩) I.quiet hs
def jb (te:TE):TS:=fun D σ H=>te σ H D.rt
theorem qy (he:PE X e te):PS X (.Return (some e) pos) (jb te):=by
 intro pins s σ H D I h;exact wpAny_Return_some (thn (he pins s σ H _ I h) fun v s1 ⟨x,H1,I1,r1,q1⟩=>⟨x,σ,H1,I1,r1,q1⟩)
def qho:TS:=fun D _ H=>D.rt .non H
theorem qgp:PS X (.Return none pos) qho:=fun _ _ σ H _ I h=>wpAny_Return_none ⟨.non,σ,H,I,rfl,h⟩
def zz (c:TT) (t u:TS):TS:=fun D σ H=>c σ H fun b H1=>if b=true then t D σ H1 else u D σ H1
theorem qN {c:Expr} {a b:List Stmt} {tc:TT} (hc:PT X c tc) (ha:PSs X a t) (hb:PSs X b u):PS X (.If c a b pos) (zz tc t u):=by
 intro pins s σ H D I h;refine wpAny_If (thn (hc pins s σ H _ I h) fun d s1 ⟨H1,I1,q1⟩=>?_);cases d with
 | true=>exact ha pins s1 σ H1 D I1 q1
 | false=>exact hb pins s1 σ H1 D I1 q1
end
abbrev TG:=V→St→Hp→(St→Hp→Prop)→Prop
abbrev TGs:=List V→St→Hp→(St→Hp→Prop)→Prop
def PG (X:Cx) (target:Expr) (t:TG):Prop:=
 ∀ (pins:List (Addr×Obj)) (s:Shared) (σ:St) (H:Hp) (v:V) (u:Value) (Q:St→Hp→Prop),Inv X pins σ H s→qM v u→t v σ H Q→
  wpAny (model X.prog X.w) X.A (assign target X.env u) (fun _ s'=>∃ σ' H',Inv X pins σ' H' s'∧Q σ' H') X.xe s
def PGs (X:Cx) (ts:List Expr) (t:TGs):Prop:=
 ∀ (pins:List (Addr×Obj)) (s:Shared) (σ:St) (H:Hp) (vs:List V) (us:List Value) (Q:St→Hp→Prop),Inv X pins σ H s→qP vs us→t vs σ H Q→
  wpAny (model X.prog X.w) X.A (assignInOrder ((assignEach ts X.env).map (·.2)) us) (fun _ s'=>∃ σ' H',Inv X pins σ' H' s'∧Q σ' H') X.xe s
abbrev qj3:=V→V→V→Hp→(Hp→Prop)→Prop
def qld (X:Cx) (t:qj3):Prop:=
 ∀ (pins:List (Addr×Obj)) (s:Shared) (σ:St) (H:Hp) (o i v:V) (ov iv u:Value) (Q:Hp→Prop),Inv X pins σ H s→qM o ov→qM i iv→qM v u→t o i v H Q→
  wpAny (model X.prog X.w) X.A (setItem ov iv u) (fun _ s'=>∃ H',Inv X pins σ H' s'∧Q H') X.xe s
abbrev TIp:=V→V→Hp→VK→Prop
def PIp (X:Cx) (op:Operator) (t:TIp):Prop:=
 ∀ (pins:List (Addr×Obj)) (s:Shared) (σ:St) (H:Hp) (x y:V) (v u:Value) (Q:VK),Inv X pins σ H s→qM x v→qM y u→t x y H Q→
  wpAny (model X.prog X.w) X.A (inplaceOp op v u) (EP X pins σ Q) X.xe s
section
variable {X:Cx} {pos:Pos}
def qv (i:Nat):TG:=fun v σ H Q=>Q (σ.set i (some v)) H
theorem zn {i:Nat} {x:Str} (hN:X.N.Nodup) (hi:X.N[i]?=some x) (hx:Loc X.env.scope x) (hf:X.fn x=true∨X.env.scope.names.lookup x=some .local:=by first | exact .inl rfl | exact .inr rfl | assumption):PG X (.Name x pos) (qv i):=by
 intro pins s σ H v u Q I r h;exact wpAny_assign_Name (VQ I hN hi hx r (fun s' I'=>⟨_,H,I',h⟩) hf)
def qhb:TGs:=fun vs σ H Q=>vs=[]∧Q σ H
def yB (t:TG) (u:TGs):TGs:=fun vs σ H Q=>∃ v r,vs=v::r∧t v σ H fun σ' H'=>u r σ' H' Q
theorem vQ:PGs X [] qhb:=by
 intro pins s σ H vs us Q I r h;obtain ⟨e,h⟩:=h;subst e;cases r;exact assignInOrder_nil ⟨σ,H,I,h⟩
theorem zN {e:Expr} {es:List Expr} {t:TG} {u:TGs} (h1:PG X e t) (h2:PGs X es u)
  (hs:(assignEach (e::es) X.env).map (·.2)=assign e X.env::(assignEach es X.env).map (·.2):=by rfl):PGs X (e::es) (yB t u):=by
 intro pins s σ H vs us Q I r h;obtain ⟨v,vr,e1,h⟩:=h;subst e1;cases r with
 | cons r rr=>
  rw [hs];refine assignInOrder_cons (thn (h1 pins s σ H _ _ _ I r h) fun _ s1 ⟨σ1,H1,I1,q1⟩=>?_);exact h2 pins s1 σ1 H1 _ _ Q I1 rr q1
def qe8 (K:Frag) (n:Nat) (t:TGs):TG:=fun v σ H Q=>∃ a xs,v= .ref a∧SqT K H a xs∧xs.length=n∧t xs σ H Q
theorem qis {es:List Expr} {k:Nat} {t:TGs} {n:Nat} (hc:X.calm=true) (h:PGs X es t)
  (hn:(assignEach es X.env).length=n:=by rfl) (hst:(assignEach es X.env).findIdx? (·.1)=none:=by rfl):PG X (.Tuple es k pos) (qe8 X.K n t):=by
 intro pins s σ H v u Q I r hw;obtain ⟨a,xs,e1,hq,hl,hw⟩:=hw;subst e1;cases r;obtain ⟨its,rv,ht,hz⟩:=I.tuple hq;refine assign_Tuple_tuple (I.ok.hd hc) ht (by simp [hn,← hl,rv.length]) hst fun h' hx=>?_
 have I1:Inv X pins σ H {s with heap:=h'}:=I.kept (t':=s.toks) fun b o e=>hx b o (A8 (Al e)) e
 exact h pins _ σ H xs _ Q I1 (by simpa using rv) hw
def gSub (to ti:TE) (t:qj3):TG:=fun v σ H Q=>to σ H fun o H1=>ti σ H1 fun i H2=>t o i v H2 fun H3=>Q σ H3
theorem qit {o i:Expr} {to ti:TE} {t:qj3} (ho:PE X o to) (hi:PE X i ti) (hs:qld X t)
  (ha:∀ v,assign (.Subscript o i pos) X.env v=(do
   let ov ← holding [v] (eval o X.env)
   let iv ← holding [v,ov] (eval i X.env)
   standAt pos
   holding [v,ov,iv] (setItem ov iv v)
   release [v,ov,iv] []):=by intro _;rfl):PG X (.Subscript o i pos) (gSub to ti t):=by
 intro pins s σ H v u Q I r h;rw [ha];refine Aa (B5 (thn (ho pins s σ H _ I h) fun ov s1 ⟨x,H1,I1,r1,q1⟩=>?_));refine Aa (B5 (thn (hi pins s1 σ H1 _ I1 q1) fun iv s2 ⟨y,H2,I2,r2,q2⟩=>?_));refine Aa (Et (Aa (B5 (thn (hs pins s2 σ H2 x y v ov iv u _ I2 r1 r2 r q2) fun _ s3 ⟨H3,I3,q3⟩=>?_))));exact wpAny_release ⟨σ,H3,I3,q3⟩
def qX (te:TE) (g:TG):TS:=fun D σ H=>te σ H fun x H1=>g x σ H1 D.nx
theorem qip {tg e:Expr} {te:TE} {g:TG} (he:PE X e te) (hg:PG X tg g) (hs:swapsWithSole [tg] e pos.line X.env=pure false:=by rfl) (hw:swappedStores [tg] e X.env=pure none:=by rfl)
  (h1:(assignEach [tg] X.env).map (·.2)=[assign tg X.env]:=by rfl):PS X (.Assign [tg] e pos) (qX te g):=by
 intro pins s σ H D I h;refine wpAny_Assign_stores (thn (he pins s σ H _ I h) fun v s1 ⟨x,H1,I1,r1,q1⟩=>?_) hs hw;rw [h1];exact thn (hg pins s1 σ H1 x v _ I1 r1 q1) fun _ s2 q=>q
theorem qio {i:Nat} {x:Str} {e:Expr} {te:TE} {pos':Pos} (hN:X.N.Nodup) (hi:X.N[i]?=some x) (hx:Loc X.env.scope x) (he:PE X e te) (hs:swapsWith e (some (.Name x pos')) pos.line X.env=pure false:=by rfl) (hf:X.fn x=true∨X.env.scope.names.lookup x=some .local:=by first | exact .inl rfl | exact .inr rfl | assumption):
  PS X (.Assign [.Name x pos'] e pos) (qX te (qv i)):=by
 intro pins s σ H D I h;refine wpAny_Assign_Name (thn (he pins s σ H _ I h) fun v s1 ⟨y,H1,I1,r1,q1⟩=>?_) hs;exact VQ I1 hN hi hx r1 (fun s2 I2=>⟨_,H1,I2,q1⟩) hf
def tAug (i:Nat) (te:TE) (ti:TIp):TS:=fun D σ H=>∃ x,σ[i]?=some (some x)∧te σ H fun y H1=>ti x y H1 fun z H2=>D.nx (σ.set i (some z)) H2
theorem qej {i:Nat} {x:Str} {e:Expr} {te:TE} {op:Operator} {ti:TIp} {pos':Pos} (hN:X.N.Nodup) (hi:X.N[i]?=some x) (hx:Loc X.env.scope x) (he:PE X e te) (ho:PIp X op ti) (hf:X.fn x=true∨X.env.scope.names.lookup x=some .local:=by first | exact .inl rfl | exact .inr rfl | assumption):
  PS X (.AugAssign (.Name x pos') op e pos) (tAug i te ti):=by
 intro pins s σ H D I h;obtain ⟨v,e1,h⟩:=h;obtain ⟨m,hn,hl⟩:=I.loc;have vis:Vis X.env.scope x:=by rcases hx with k | k;exact .inl k;exact .inr (.inl k)
 obtain ⟨u,r,l⟩:=hl i x v hi e1 vis;refine wpAny_AugAssign_Name ?_;have go:wpAny (model X.prog X.w) X.A (eval e X.env) (fun w s₂=>wpAny (model X.prog X.w) X.A (inplaceOp op u w) (fun r s₃=>wpAny (model X.prog X.w) X.A (storeName X.env x r) (fun _=>SP X pins D .next) X.xe s₃) X.xe s₂) X.xe s:=by
  refine thn (he pins s σ H _ I h) fun w s1 ⟨y,H1,I1,r1,q1⟩=>?_;refine thn (ho pins s1 σ H1 v y u w _ I1 r r1 q1) fun z s2 ⟨zv,H2,I2,r2,q2⟩=>?_;exact VQ I2 hN hi hx r2 (fun s3 I3=>⟨_,H2,I3,q2⟩) hf
 rcases l with ⟨hk,hm⟩ | ⟨hk,c,hc,hcell⟩
 ·exact wpAny_loadName_local I.ok.kind hk hn hm go
 ·rcases hk with hk | hk
  ·exact wpAny_loadName_cell I.ok.kind hk hc hcell go
  ·rcases hx with k | k
   ·have:X.env.scope.names.lookup x=some .free:=hk;rw [k] at this;cases this
   ·have:X.env.scope.names.lookup x=some .free:=hk;rw [k] at this;cases this
def ipI (f:Int→Int→Int):TIp:=fun x y H Q=>∃ i j,x= .int i∧y= .int j∧Q (.int (f i j)) H
theorem qe1:PIp X .Add (ipI fun i j=>i+j):=by
 intro pins s σ H x y v u Q I r1 r2 h;obtain ⟨i,j,e1,e2,q⟩:=h;subst e1;subst e2;obtain ⟨t,rfl⟩:=r1;obtain ⟨t',rfl⟩:=r2;exact iadd_int ⟨.int _,H,I.tok _,⟨_,rfl⟩,q⟩
end
section
variable {X:Cx} {pos:Pos}
def Vi (c:TT) (tb:TS):TS:=fun D σ H=>∃ W:Nat→St→Hp→Prop,(∃ m,W m σ H)∧∀ m σ H,W m σ H→
 c σ H fun b H1=>if b=true then ∃ N:St→Hp→Prop,(∀ σ' H',N σ' H'→∃ m',m'<m∧W m' σ' H')∧tb {D with nx:=N,ct:=N,bk:=D.nx} σ H1 else D.nx σ H1
theorem Jr {c:Expr} {body:List Stmt} {tc:TT} {tb:TS} (hp:PassesOwn (model X.prog X.w) X.A X.env X.xe) (hc:PT X c tc) (hb:PSs X body tb):PS X (.While c body [] pos) (Vi tc tb):=by
 intro pins s σ H D I h;obtain ⟨W,⟨m0,w0⟩,turn⟩:=h;refine wpAny_While (codeAny_whileLoop (fun n s'=>∃ σ' H',Inv X pins σ' H' s'∧W n σ' H') ?_ m0 ⟨σ,H,I,w0⟩);rintro n s1 ⟨σ1,H1,I1,w1⟩;refine Dz hp (thn (hc pins s1 σ1 H1 _ I1 (turn n σ1 H1 w1)) fun b s2 ⟨H2,I2,q2⟩=>?_);cases b with
 | true=>
  obtain ⟨N,hN,q2⟩:=q2;rw [if_pos rfl];refine Dz hp (thn (hb pins s2 σ1 H2 _ I2 q2) fun f s3 q3=>?_);cases f with
  | next=>
   obtain ⟨σ3,H3,I3,n3⟩:=q3;obtain ⟨m',hm,w3⟩:=hN σ3 H3 n3;exact ⟨m',hm,σ3,H3,I3,w3⟩
  | cont=>
   obtain ⟨σ3,H3,I3,n3⟩:=q3;obtain ⟨m',hm,w3⟩:=hN σ3 H3 n3;exact ⟨m',hm,σ3,H3,I3,w3⟩
  | brk=>exact q3
  | ret v=>exact q3
 | false=>
  rw [if_neg Ag];exact wpAny_execs_nil ⟨σ1,H2,I2,q2⟩
end
structure It where
 go:Nat→Hp→Prop
 yld:Nat→Hp→V→Hp→Prop
 stop:Nat→Hp→Prop
def V5 (X:Cx) (pins:List (Addr×Obj)) (H:Hp) (b:Addr):Prop:=
 H b=none∧b≠X.env.locals∧b∉X.fs∧(b∈X.ex∨X.s₀.heap.objs.size≤b)∧(∀ x c,X.env.cells.lookup x=some c→c≠b)∧∀ p∈X.pn++pins,p.1≠b
theorem Inv.fpOk {X:Cx} {pins:List (Addr×Obj)} {σ:St} {H H':Hp} {s:Shared} {b:Addr} (I:Inv X pins σ H s) (hb:s.heap.objs.size≤b) (hn:H' b=none):V5 X pins H' b:=by
 refine ⟨hn,Cv (Bi I.lt hb),I.nofs hb,.inr (Av I.sz hb),fun x c e z=>?_,fun p hp z=>?_⟩
 ·obtain ⟨v,q⟩:=I.cell x c e;exact absurd (Bi q.lt (by rw [z];exact hb)) (D1 _)
 ·exact absurd (Bi (Al (I.pin p hp).1) (by rw [z];exact hb)) (D1 _)
structure Turn (P:Program) (w:World) (K:Frag) (tg:Expr) (J:It) (fp:List Addr) (it:Addr) (tn:Nat→Heap→Prop):Prop where
 mem:it∈fp
 obj:∀ i h,tn i h→∀ b∈fp,∃ o,h.get? b=some o∧∀ v,o.data≠ .cell v
 keep:∀ i h h',tn i h→(∀ b∈fp,∀ o,h.get? b=some o→h'.get? b=some o)→tn i h'
 item:∀ (X:Cx),X.prog=P→X.w=w→X.K=K→X.calm=true→∀ (i:Nat) (pins:List (Addr×Obj)) (s:Shared) (σ:St) (H:Hp) (E:Value→Shared→Prop),Inv X pins σ H s→(∀ b∈fp,V5 X pins H b)→tn i s.heap→J.go i H→
  wpAny (model P w) X.A (pyNext (.ref it)) (fun r s1=>∃ u,r=some u∧
   wpAny (model P w) X.A (letOwnedTupleGo tg (.ref it) u) (fun _ s2=>∃ x H',Inv X pins σ H' s2∧qM x u∧J.yld i H x H'∧tn (i+1) s2.heap∧∀ b∈fp,H' b=none) E s1) E s
 done:∀ (X:Cx),X.prog=P→X.w=w→X.K=K→X.calm=true→∀ (i:Nat) (pins:List (Addr×Obj)) (s:Shared) (σ:St) (H:Hp) (E:Value→Shared→Prop),Inv X pins σ H s→(∀ b∈fp,V5 X pins H b)→tn i s.heap→J.stop i H→
  wpAny (model P w) X.A (pyNext (.ref it)) (fun r s1=>r=none∧Inv X pins σ H s1) E s
 self:∀ (A:Around) (i:Nat) (s:Shared) (Q:Value→Shared→Prop) (E:Value→Shared→Prop),tn i s.heap→Q (.ref it) s→wpAny (model P w) A (pyIter (.ref it)) Q E s
abbrev TI:=St→Hp→(It→Hp→Prop)→Prop
def PIE (X:Cx) (pins:List (Addr×Obj)) (σ:St) (tg:Expr) (R:It→Hp→Prop) (itv:Value) (s2:Shared):Prop:=
 ∃ (it:Addr) (fp:List Addr) (tn:Nat→Heap→Prop) (J:It) (H':Hp),itv= .ref it∧Inv X pins σ H' s2∧Turn X.prog X.w X.K tg J fp it tn∧tn 0 s2.heap∧(∀ b∈fp,V5 X pins H' b)∧R J H'
def PI (X:Cx) (tg iter:Expr) (wi:TI):Prop:=
 ∀ (pins:List (Addr×Obj)) (s:Shared) (σ:St) (H:Hp) (R:It→Hp→Prop),Inv X pins σ H s→wi σ H R→
  wpAny (model X.prog X.w) X.A (eval iter X.env) (fun v s1=>wpAny (model X.prog X.w) X.A (pyIter v) (PIE X pins σ tg R) X.xe s1) X.xe s
theorem Z4 {M:Model} {A:Around} {E:Value→Shared→Prop} {s:Shared} {tg:Expr} {it:Addr} {u:Value} {o:Obj} {n:String} {vs:Array Value} {Q:Unit→Shared→Prop} (ho:s.heap.get? it=some o) (hc:o.cls= .type n) (hd:o.data= .fields vs)
  (hn:["enumerate","zip","dict_itemiterator","dict_reverseitemiterator","odict_iterator","itertools.zip_longest","itertools.pairwise"].contains n=false) (hQ:Q () s):wpAny M A (letOwnedTupleGo tg (.ref it) u) Q E s:=by
 unfold letOwnedTupleGo;cases tg <;> first
  | exact Ai hQ
  | (cases u <;> first
    | exact Ai hQ
    | (refine Aa (wpAny_load ho ?_)
       rw [hc,hd];show wpAny M A (if (["enumerate","zip","dict_itemiterator","dict_reverseitemiterator","odict_iterator","itertools.zip_longest","itertools.pairwise"].contains n&&vs[0]?==some (rawInt _))=true then _ else _) Q E s
       rw [if_neg (by intro h;rw [hn,Cp] at h;cases h)]
       exact Ai hQ))
def Itl (K:Frag) (a:Addr):It:=
 ⟨fun i H=>∃ xs x,SqL K H a xs∧xs[i]?=some x,fun i H x H'=>H'=H∧∀ xs,SqL K H a xs→xs[i]?=some x,fun i H=>∃ xs,SqL K H a xs∧xs.length≤i⟩
def Itt (K:Frag) (a:Addr):It:=
 ⟨fun i H=>∃ xs x,SqT K H a xs∧xs[i]?=some x,fun i H x H'=>H'=H∧∀ xs,SqT K H a xs→xs[i]?=some x,fun i H=>∃ xs,SqT K H a xs∧xs.length≤i⟩
def Itr (lo:Int) (n:Nat):It:=⟨fun i _=>i<n,fun i H x H'=>H'=H∧x= .int (lo+i),fun i _=>n≤i⟩
theorem qbt {P:Program} {w:World} {K:Frag} {tg:Expr} (a it:Addr):Turn P w K tg (Itl K a) [it] it (fun i h=>h.IsListIter it a i) where
 mem:=by simp
 obj:=fun i h st b hb=>by
  have e:b=it:=by simpa using hb
  subst e;obtain ⟨o,e,c,d⟩:=st;exact ⟨o,e,fun v z=>by rw [d] at z;cases z⟩
 keep:=fun i h h' st k=>st.at fun o e=>k it (by simp) o e
 item:=by
  intro X hP hw hK hc i pins s σ H E I hf st hg;subst hP hw hK;obtain ⟨xs,x,hq,hx⟩:=hg;obtain ⟨its,rv,p,hz⟩:=I.list hq;obtain ⟨u,hu,ru⟩:=rv.get hx;obtain ⟨f0,f1,f2,f3,f4,f5⟩:=hf it (by simp)
  refine wpAny_pyNext_list_item st p.isList (x:=u) (by simpa using hu) fun h' st' sb=>?_
  have I1:Inv X pins σ H {s with heap:=h'}:=I.turned (t':=s.toks) (fun b o hb e=>(sb.2 b hb).trans e) f0 f1 f3 f4 f5
  obtain ⟨o,e,c,d⟩:=id st';exact ⟨u,rfl,Z4 (s:={s with heap:=h'}) e c d O0 ⟨x,H,I1,ru,⟨rfl,fun ys hy=>by rw [I.list_inj hy hq];exact hx⟩,st',fun b hb=>(hf b hb).1⟩⟩
 done:=by
  intro X hP hw hK hc i pins s σ H E I hf st hg;subst hP hw hK;obtain ⟨xs,hq,hx⟩:=hg;obtain ⟨its,rv,p,hz⟩:=I.list hq;obtain ⟨f0,f1,f2,f3,f4,f5⟩:=hf it (by simp)
  have hl:=rv.length;exact wpAny_pyNext_list_end (I.ok.hd hc) st p.isList (by simp;omega) fun h' eb=>⟨rfl,I.turned (t':=s.toks) (fun b o hb e=>eb b o hb e) f0 f1 f3 f4 f5⟩
 self:=fun _ _ _ _ _ st h=>wpAny_pyIter_listiter st h
theorem Qy {P:Program} {w:World} {K:Frag} {tg:Expr} (a it:Addr):Turn P w K tg (Itt K a) [it] it (fun i h=>h.IsTupleIter it a i) where
 mem:=by simp
 obj:=fun i h st b hb=>by
  have e:b=it:=by simpa using hb
  subst e;obtain ⟨o,e,c,d⟩:=st;exact ⟨o,e,fun v z=>by rw [d] at z;cases z⟩
 keep:=fun i h h' st k=>st.at fun o e=>k it (by simp) o e
 item:=by
  intro X hP hw hK hc i pins s σ H E I hf st hg;subst hP hw hK;obtain ⟨xs,x,hq,hx⟩:=hg;obtain ⟨its,rv,p,hz⟩:=I.tuple hq;obtain ⟨u,hu,ru⟩:=rv.get hx;obtain ⟨f0,f1,f2,f3,f4,f5⟩:=hf it (by simp)
  refine wpAny_pyNext_tuple_item st (show s.heap.IsTuple a its.toArray from p) (x:=u) (by simpa using hu) fun h' st' sb=>?_
  have I1:Inv X pins σ H {s with heap:=h'}:=I.turned (t':=s.toks) (fun b o hb e=>(sb.2 b hb).trans e) f0 f1 f3 f4 f5
  obtain ⟨o,e,c,d⟩:=id st';exact ⟨u,rfl,Z4 (s:={s with heap:=h'}) e c d O0 ⟨x,H,I1,ru,⟨rfl,fun ys hy=>by rw [I.tuple_inj hy hq];exact hx⟩,st',fun b hb=>(hf b hb).1⟩⟩
 done:=by
  intro X hP hw hK hc i pins s σ H E I hf st hg;subst hP hw hK;obtain ⟨xs,hq,hx⟩:=hg;obtain ⟨its,rv,p,hz⟩:=I.tuple hq;obtain ⟨f0,f1,f2,f3,f4,f5⟩:=hf it (by simp)
  have hl:=rv.length;exact wpAny_pyNext_tuple_end (I.ok.hd hc) st (show s.heap.IsTuple a its.toArray from p) (by simp;omega) fun h' eb=>⟨rfl,I.turned (t':=s.toks) (fun b o hb e=>eb b o hb e) f0 f1 f3 f4 f5⟩
 self:=fun _ _ _ _ _ st h=>wpAny_pyIter_tupleiter st h
theorem Qz {P:Program} {w:World} {K:Frag} {tg:Expr} (it:Addr) (lo:Int) (n:Nat):Turn P w K tg (Itr lo n) [it] it (fun i h=>IsRangeIter h it (lo+(i:Nat)*1) ((n:Int) - (i:Nat)) 1) where
 mem:=by simp
 obj:=fun i h st b hb=>by
  have e:b=it:=by simpa using hb
  subst e;exact ⟨_,st,fun v z=>by
   have z':Data.fields _=Data.cell v:=z;cases z'⟩
 keep:=fun i h h' st k=>k it (by simp) _ st
 item:=by
  intro X hP hw hK hc i pins s σ H E I hf st hg;subst hP hw hK;obtain ⟨f0,f1,f2,f3,f4,f5⟩:=hf it (by simp)
  have W:=Walks.range (prog:=X.prog) (w:=X.w) (I.ok.hd hc) it lo 1 n;refine W.item i s _ _ hg st fun v h' tk hv st' kk=>?_;obtain ⟨t,rfl⟩:=hv;have I1:Inv X pins σ H {s with heap:=h',toks:=tk}:=I.turned (fun b o hb e=>kk b o (by simpa using hb) e) f0 f1 f3 f4 f5
  refine ⟨_,rfl,Z4 (s:={s with heap:=h',toks:=tk}) (n:="range_iterator") st' rfl rfl O0 ⟨.int (lo+i),H,I1,⟨t,?_⟩,⟨rfl,rfl⟩,st',fun b hb=>(hf b hb).1⟩⟩
  rw [Int.mul_one]
 done:=by
  intro X hP hw hK hc i pins s σ H E I hf st hg;subst hP hw hK;obtain ⟨f0,f1,f2,f3,f4,f5⟩:=hf it (by simp)
  exact wpAny_pyNext_range_end (I.ok.hd hc) st (by have:n≤i:=hg;omega) fun h' eb=>⟨rfl,I.turned (t':=s.toks) (fun b o hb e=>eb b o hb e) f0 f1 f3 f4 f5⟩
 self:=fun _ _ _ _ _ st h=>wpAny_pyIter_rangeiter st h
section
variable {X:Cx} {tg:Expr}
theorem ZA {pins:List (Addr×Obj)} {σ:St} {H:Hp} {s:Shared} {R:It→Hp→Prop} {E:Value→Shared→Prop} {lo hi:Int} {t u v:Tok} {tk:Nat} (I:Inv X pins σ H s) (h1: -(2 ^ 62)≤lo) (h2:lo<2 ^ 62) (h3: -(2 ^ 62)≤hi) (h4:hi<2 ^ 62)
  (q:R (Itr lo (hi - lo).toNat) H):wpAny (model X.prog X.w) X.A (pyIter (.ref s.heap.objs.size)) (PIE X pins σ tg R) E {s with heap:=s.heap.push {cls:= .type "range",data:= .fields #[.int lo t,.int hi u,.int 1 v]},toks:=tk}:=by
 refine wpAny_pyIter_range (IsRange.new ..) (small_one h1 h2 h3 h4) ?_;have I1:Inv X pins σ H {s with heap:=s.heap.push {cls:= .type "range",data:= .fields #[.int lo t,.int hi u,.int 1 v]},toks:=tk}:=I.kept fun b o e=>Af _ e
 refine ⟨(s.heap.push {cls:= .type "range",data:= .fields #[.int lo t,.int hi u,.int 1 v]}).objs.size,[(s.heap.push {cls:= .type "range",data:= .fields #[.int lo t,.int hi u,.int 1 v]}).objs.size],_,_,H,rfl,
  I1.kept (t':=tk) fun b o e=>Af _ e,Qz _ lo (hi - lo).toNat,?_,fun b hb=>?_,q⟩
 ·have e1:lo+((0:Nat):Int)*1=lo:=by simp
  have e2:(((hi - lo).toNat:Nat):Int) - ((0:Nat):Int)=Builtin.Range.rangeSize lo hi 1:=by rw [rangeSize_one];split <;> omega
  show IsRangeIter _ _ (lo+((0:Nat):Int)*1) ((((hi - lo).toNat:Nat):Int) - ((0:Nat):Int)) 1;rw [e1,e2];exact Aw _ rfl
 ·have e:b=(s.heap.push {cls:= .type "range",data:= .fields #[.int lo t,.int hi u,.int 1 v]}).objs.size:=by simpa using hb
  subst e;exact I1.fpOk (Ah _) (I1.hok.fresh (Ah _))
def Z0 (ta:TA):TI:=fun σ H R=>ta σ H fun vs H1=>∃ j:Int,vs=[.int j]∧ -(2 ^ 62)≤j∧j<2 ^ 62∧R (Itr 0 j.toNat) H1
def qe3 (ta:TA):TI:=fun σ H R=>ta σ H fun vs H1=>∃ i j:Int,vs=[.int i,.int j]∧(-(2 ^ 62)≤i∧i<2 ^ 62∧ -(2 ^ 62)≤j∧j<2 ^ 62)∧R (Itr i (j - i).toNat) H1
theorem jj {a:Expr} {ta:TA} {p pos:Pos} (hg:Gl X "range") (hm:X.mg "range"=none) (ha:PA X [a] ta) (hs:starEach [a] X.env=[(false,eval a X.env)]:=by rfl):PI X tg (.Call (.Name "range" p) [a] [] pos) (Z0 ta):=by
 intro pins s σ H R I h;refine Call_ (JL I hg hm boot_range (B8 (thn (ha pos pins s σ H _ I h) fun us s1 ⟨vs,H1,I1,r1,q1⟩=>?_) hs rfl));obtain ⟨j,e,q1,q2,q⟩:=q1;subst e;cases r1 with
 | cons r rr=>
  cases rr;obtain ⟨t,rfl⟩:=r;exact call_range_1 (ZA I1 ⋯ ⋯ q1 q2 (by simpa using q))
theorem qcb {a b:Expr} {ta:TA} {p pos:Pos} (hg:Gl X "range") (hm:X.mg "range"=none) (ha:PA X [a,b] ta) (hs:starEach [a,b] X.env=[(false,eval a X.env),(false,eval b X.env)]:=by rfl) (hs2:starEach [b] X.env=[(false,eval b X.env)]:=by rfl):
  PI X tg (.Call (.Name "range" p) [a,b] [] pos) (qe3 ta):=by
 intro pins s σ H R I h;refine Call_ (JL I hg hm boot_range (B8 (thn (ha pos pins s σ H _ I h) fun us s1 ⟨vs,H1,I1,r1,q1⟩=>?_) (by rw [hs,hs2]) (by rw [hs2];rfl)))
 obtain ⟨i,j,e,⟨q1,q2,q3,q4⟩,q⟩:=q1;subst e;cases r1 with
 | cons r rr=>
  cases rr with
  | cons r' rr=>
   cases rr;obtain ⟨t,rfl⟩:=r;obtain ⟨t',rfl⟩:=r';exact call_range_2 (ZA I1 q1 q2 q3 q4 q)
def Vj (wi:TI) (g:TG) (tb:TS):TS:=fun D σ H=>wi σ H fun J H1=>∃ W:Nat→Nat→St→Hp→Prop,(∃ m,W 0 m σ H1)∧∀ i m σ H,W i m σ H→
 (J.stop i H∧D.nx σ H)∨(J.go i H∧∃ N:St→Hp→Prop,(∀ σ' H',N σ' H'→∃ m',m'<m∧W (i+1) m' σ' H')∧∀ x H',J.yld i H x H'→g x σ H' fun σ2 H2=>tb {D with nx:=N,ct:=N,bk:=D.nx} σ2 H2)
def Vq (fp:List Addr) (h:Heap):List (Addr×Obj):=fp.filterMap fun b=>(h.get? b).map fun o=>(b,o)
theorem J7 {fp:List Addr} {h:Heap} {b:Addr} {o:Obj} (hb:b∈fp) (e:h.get? b=some o):(b,o)∈Vq fp h:=Ey.mpr ⟨b,hb,by rw [e];rfl⟩
theorem qcg {fp:List Addr} {h:Heap} {p:Addr×Obj} (hp:p∈Vq fp h):p.1∈fp∧h.get? p.1=some p.2:=by
 obtain ⟨b,hb,e⟩:=Ey.mp hp;cases q:h.get? b with
 | none=>rw [q] at e;cases e
 | some o=>
  rw [q] at e;have e':(b,o)=p:=Be e;subst e';exact ⟨hb,q⟩
theorem Inv.pinned {pins:List (Addr×Obj)} {σ:St} {H:Hp} {s:Shared} {fp:List Addr} (I:Inv X pins σ H s) (hf:∀ b∈fp,V5 X pins H b) (ho:∀ b∈fp,∃ o,s.heap.get? b=some o∧∀ v,o.data≠ .cell v):Inv X (pins++Vq fp s.heap) σ H s:=
 I.pins_of fun p hp=>(Bl.mp hp).elim (fun z=>I.pin p (Bh _ z)) fun z=>by
  obtain ⟨hb,e⟩:=qcg z;obtain ⟨f0,f1,f2,_⟩:=hf p.1 hb;obtain ⟨o,e',d⟩:=ho p.1 hb;rw [e] at e';cases e';exact ⟨e,f0,f1,f2,d⟩
theorem Inv.unpinned {pins pl:List (Addr×Obj)} {σ:St} {H:Hp} {s:Shared} (I:Inv X (pins++pl) σ H s):Inv X pins σ H s:=I.pins_of fun p hp=>I.pin p (Bh _ (B7 _ hp))
theorem jf {iter:Expr} {body:List Stmt} {wi:TI} {g:TG} {tb:TS} {pos:Pos} (hp:PassesOwn (model X.prog X.w) X.A X.env X.xe) (hc:X.calm=true) (hi:PI X tg iter wi) (hg:PG X tg g) (hb:PSs X body tb)
  (hs:∀ x,foldedSetIterable iter X.env x=pure x:=by intro _;rfl):PS X (.For tg iter body [] pos) (Vj wi g tb):=by
 intro pins s σ H D I h;refine wpAny_For (thn (hi pins s σ H _ I h) fun v s1 h1=>thn h1 fun itv s2 h2=>?_) hs;obtain ⟨it,fp,tn,J,H2,e,I2,T,st2,f2,W,⟨m0,w0⟩,turn⟩:=h2;subst e;have stat:∀ {H':Hp},(∀ b∈fp,H' b=none)→∀ b∈fp,V5 X pins H' b:=fun hn b hb=>⟨hn b hb,(f2 b hb).2⟩;refine codeAny_forLoop_any (fun n s'=>∃ i σ' H',Inv X pins σ' H' s'∧tn i s'.heap∧(∀ b∈fp,H' b=none)∧W i n σ' H') ?_ m0 ⟨0,σ,H2,I2,st2,fun b hb=>(f2 b hb).1,w0⟩;rintro n s3 ⟨i,σ3,H3,I3,st3,fr3,w3⟩;rcases turn i n σ3 H3 w3 with ⟨stop,qn⟩ | ⟨go,N,hN,step⟩
 ·refine Dz hp (thn (T.done X rfl rfl rfl hc i pins s3 σ3 H3 X.xe I3 (stat fr3) st3 stop) fun r s4 ⟨hr,I4⟩=>?_);subst hr;exact wpAny_execs_nil ⟨σ3,H3,I4,qn⟩
 ·refine Dz hp (thn (T.item X rfl rfl rfl hc i pins s3 σ3 H3 X.xe I3 (stat fr3) st3 go) fun r s4 ⟨u,hr,h4⟩=>?_);subst hr;refine Dz hp (thn h4 fun _ s5 ⟨x,H5,I5,r5,y5,st5,fr5⟩=>?_);have I5':=I5.pinned (stat fr5) (T.obj _ _ st5);refine Dz hp (thn (hg _ s5 σ3 H5 x u _ I5' r5 (step x H5 y5)) fun _ s6 ⟨σ6,H6,I6,q6⟩=>?_);refine Dz hp (thn (hb _ s6 σ6 H6 _ I6 q6) fun f s7 q7=>?_);have again:∀ {σ7:St} {H7:Hp},Inv X (pins++Vq fp s5.heap) σ7 H7 s7→N σ7 H7→∃ m,m<n∧∃ i σ' H',Inv X pins σ' H' s7∧tn i s7.heap∧(∀ b∈fp,H' b=none)∧W i m σ' H':=fun {σ7 H7} I7 n7=>by
   obtain ⟨m',hm,w7⟩:=hN σ7 H7 n7;refine ⟨m',hm,i+1,σ7,H7,I7.unpinned,T.keep _ _ _ st5 fun b hb o e=>(I7.pin (b,o) (Bh _ (Bh _ (J7 hb e)))).1,fun b hb=>?_,w7⟩;obtain ⟨o,e,d⟩:=T.obj _ _ st5 b hb;exact (I7.pin (b,o) (Bh _ (Bh _ (J7 hb e)))).2.1
  cases f with
  | next=>obtain ⟨σ7,H7,I7,n7⟩:=q7;exact again I7 n7
  | cont=>obtain ⟨σ7,H7,I7,n7⟩:=q7;exact again I7 n7
  | brk=>obtain ⟨σ7,H7,I7,q7⟩:=q7;exact ⟨σ7,H7,I7.unpinned,q7⟩
  | ret v=>obtain ⟨x7,σ7,H7,I7,r7,q7⟩:=q7;exact ⟨x7,σ7,H7,I7.unpinned,r7,q7⟩
end
abbrev R2:=V→V→Hp→VK→Prop
def OpR (X:Cx) (f:Value→Value→Sem Value) (r:R2):Prop:=
 ∀ (pins:List (Addr×Obj)) (s:Shared) (σ:St) (H:Hp) (x y:V) (v u:Value) (Q:VK),Inv X pins σ H s→qM x v→qM y u→r x y H Q→
  wpAny (model X.prog X.w) X.A (f v u) (EP X pins σ Q) X.xe s
def UnR (X:Cx) (f:Value→Sem Value) (r:V→Hp→VK→Prop):Prop:=
 ∀ (pins:List (Addr×Obj)) (s:Shared) (σ:St) (H:Hp) (x:V) (v:Value) (Q:VK),Inv X pins σ H s→qM x v→r x H Q→
  wpAny (model X.prog X.w) X.A (f v) (EP X pins σ Q) X.xe s
def jK (X:Cx) (f:Value) (r:List V→Hp→VK→Prop):Prop:=
 ∀ (pins:List (Addr×Obj)) (s:Shared) (σ:St) (H:Hp) (xs:List V) (us:List Value) (Q:VK),Inv X pins σ H s→qP xs us→r xs H Q→
  wpAny (model X.prog X.w) X.A (call f us) (EP X pins σ Q) X.xe s
def TruR (X:Cx) (r:V→Hp→(Bool→Hp→Prop)→Prop):Prop:=
 ∀ (pins:List (Addr×Obj)) (s:Shared) (σ:St) (H:Hp) (x:V) (v:Value) (Q:Bool→Hp→Prop),Inv X pins σ H s→qM x v→r x H Q→
  wpAny (model X.prog X.w) X.A (truthy v) (TP X pins σ Q) X.xe s
def tOp (r:R2) (ta tb:TE):TE:=fun σ H Q=>ta σ H fun x H1=>tb σ H1 fun y H2=>r x y H2 Q
def tUn (r:V→Hp→VK→Prop) (ta:TE):TE:=fun σ H Q=>ta σ H fun x H1=>r x H1 Q
def rI (C:Int→Int→Prop) (g:Int→Int→V):R2:=fun x y H Q=>∃ i j,x= .int i∧y= .int j∧C i j∧Q (g i j) H
def rI0 (g:Int→Int→V):R2:=fun x y H Q=>∃ i j,x= .int i∧y= .int j∧Q (g i j) H
def rU (g:Int→V):V→Hp→VK→Prop:=fun x H Q=>∃ i,x= .int i∧Q (g i) H
section
variable {X:Cx} {a b c:Expr} {ta tb tc:TE} {pos:Pos}
theorem qjx (ha:PE X a ta) (hb:PE X b tb) {pins:List (Addr×Obj)} {s:Shared} {σ:St} {H:Hp} {R:V→V→Hp→Prop} (I:Inv X pins σ H s)
  (h:ta σ H fun x H1=>tb σ H1 fun y H2=>R x y H2) {Q:Value→Shared→Prop} {f:Value→Value→Sem Value}
  (hf:∀ v u s2 x y H2,Inv X pins σ H2 s2→qM x v→qM y u→R x y H2→wpAny (model X.prog X.w) X.A (f v u) Q X.xe s2):
  wpAny (model X.prog X.w) X.A (eval a X.env) (fun v s₁=>wpAny (model X.prog X.w) X.A (eval b X.env) (fun u s₂=>wpAny (model X.prog X.w) X.A (f v u) Q X.xe s₂) X.xe s₁) X.xe s:=by
 refine thn (ha pins s σ H _ I h) fun v s1 ⟨x,H1,I1,r1,q1⟩=>?_;refine thn (hb pins s1 σ H1 _ I1 q1) fun u s2 ⟨y,H2,I2,r2,q2⟩=>?_;exact hf v u s2 x y H2 I2 r1 r2 q2
theorem qu {op:Operator} {r:R2} (ho:OpR X (binaryOp op) r) (ha:PE X a ta) (hb:PE X b tb):PE X (.BinOp a op b pos) (tOp r ta tb):=by
 intro pins s σ H Q I h;exact wpAny_BinOp (qjx ha hb I h fun v u s2 x y H2 I2 rx ry q=>ho pins s2 σ H2 x y v u Q I2 rx ry q)
theorem qkr {op:UnaryOp} {r:V→Hp→VK→Prop} (ho:UnR X (unaryOp op) r) (ha:PE X a ta):PE X (.UnaryOp op a pos) (tUn r ta):=by
 intro pins s σ H Q I h;exact UnaryOp_ (thn (ha pins s σ H _ I h) fun v s1 ⟨x,H1,I1,r1,q1⟩=>ho pins s1 σ H1 x v Q I1 r1 q1)
theorem opI {f:Value→Value→Sem Value} {C:Int→Int→Prop} {g:Int→Int→Int}
  (rule:∀ (i j:Int) (t u:Tok) (s:Shared) (Q:Value→Shared→Prop) (E:Value→Shared→Prop),C i j→Q (.int (g i j) s.toks) {s with toks:=s.toks+1}→wpAny (model X.prog X.w) X.A (f (.int i t) (.int j u)) Q E s):
  OpR X f (rI C fun i j=> .int (g i j)):=by
 intro pins s σ H x y v u Q I rx ry h;obtain ⟨i,j,rfl,rfl,hc,q⟩:=h;obtain ⟨t,rfl⟩:=rx;obtain ⟨t',rfl⟩:=ry;exact rule i j t t' s _ _ hc ⟨.int (g i j),H,I.tok _,⟨_,rfl⟩,q⟩
theorem qkx {f:Value→Value→Sem Value} {g:Int→Int→Int}
  (rule:∀ (i j:Int) (t u:Tok) (s:Shared) (Q:Value→Shared→Prop) (E:Value→Shared→Prop),Q (.int (g i j) s.toks) {s with toks:=s.toks+1}→wpAny (model X.prog X.w) X.A (f (.int i t) (.int j u)) Q E s):
  OpR X f (rI0 fun i j=> .int (g i j)):=by
 intro pins s σ H x y v u Q I rx ry h;obtain ⟨i,j,rfl,rfl,q⟩:=h;obtain ⟨t,rfl⟩:=rx;obtain ⟨t',rfl⟩:=ry;exact rule i j t t' s _ _ ⟨.int (g i j),H,I.tok _,⟨_,rfl⟩,q⟩
theorem qi7 {f:Value→Value→Sem Value} {g:Int→Int→Bool}
  (rule:∀ (i j:Int) (t u:Tok) (s:Shared) (Q:Value→Shared→Prop) (E:Value→Shared→Prop),Q (.bool (g i j)) s→wpAny (model X.prog X.w) X.A (f (.int i t) (.int j u)) Q E s):
  OpR X f (rI0 fun i j=> .bl (g i j)):=by
 intro pins s σ H x y v u Q I rx ry h;obtain ⟨i,j,rfl,rfl,q⟩:=h;obtain ⟨t,rfl⟩:=rx;obtain ⟨t',rfl⟩:=ry;exact rule i j t t' s _ _ ⟨.bl (g i j),H,I,rfl,q⟩
def qdf (i j:Int):Prop:=0<j∧j<1073741824
def qlf (i j:Int):Prop:=0≤j∧j≤1000000∧i.natAbs<2 ^ 64
def qfu (i j:Int):Prop:=(-(2 ^ 64)<i∧i<2 ^ 64)∨(-(2 ^ 64)<j∧j<2 ^ 64)
theorem qfu.ok {i j:Int} (h:qfu i j):IntMulOk i j:=by
 rcases h with ⟨h1,h2⟩ | ⟨h1,h2⟩
 ·exact .of_left (intBits_le_64 h1 h2)
 ·exact .of_right (intBits_le_64 h1 h2)
theorem qi6:OpR X (binaryOp .Add) (rI0 fun i j=> .int (i+j)):=qkx fun _ _ _ _ _ _ _ q=>add_int q
theorem zu:OpR X (binaryOp .Sub) (rI0 fun i j=> .int (i - j)):=qkx fun _ _ _ _ _ _ _ q=>sub_int q
theorem Vu:OpR X (binaryOp .Mult) (rI qfu fun i j=> .int (i*j)):=opI fun _ _ _ _ _ _ _ hc q=>mul_int q hc.ok
theorem jq:OpR X (binaryOp .FloorDiv) (rI qdf fun i j=> .int (i / j)):=opI fun i j _ _ _ _ _ hc q=>by
 have h1:(0:Int)<j:=hc.1;have h2:j<1073741824:=hc.2;exact floordiv_int ⋯ (by rw [Int.fdiv_eq_ediv_of_nonneg i ⋯];exact q) (.inl (PyProof.noPylong_small ⋯))
theorem zc:OpR X (binaryOp .Mod) (rI (fun _ j=>0<j) fun i j=> .int (i % j)):=opI fun i j _ _ _ _ _ hc q=>by
 have h1:(0:Int)<j:=hc;exact mod_int' ⋯ (by rw [Int.fmod_eq_emod_of_nonneg i ⋯];exact q)
theorem Xt:OpR X (binaryOp .Pow) (rI qlf fun i j=> .int (i ^ j.toNat)):=opI fun _ _ _ _ _ _ _ hc q=>pow_int_small hc.1 hc.2.1 hc.2.2 q
theorem unI {f:Value→Sem Value} {g:Int→Int}
  (rule:∀ (i:Int) (t:Tok) (s:Shared) (Q:Value→Shared→Prop) (E:Value→Shared→Prop),Q (.int (g i) s.toks) {s with toks:=s.toks+1}→wpAny (model X.prog X.w) X.A (f (.int i t)) Q E s):
  UnR X f (rU fun i=> .int (g i)):=by
 intro pins s σ H x v Q I rx h;obtain ⟨i,rfl,q⟩:=h;obtain ⟨t,rfl⟩:=rx;exact rule i t s _ _ ⟨.int (g i),H,I.tok _,⟨_,rfl⟩,q⟩
theorem qh5:UnR X (unaryOp .USub) (rU fun i=> .int (-i)):=unI fun _ _ _ _ _ q=>neg_int q
end
def qke:V→V→Bool
 | .non,.non=>true | .non,.int _=>true | .int _,.non=>true | .non,.bl _=>true | .bl _,.non=>true | .non,.str _=>true | .str _,.non=>true
 | .int _,.int _=>true | .bl _,.bl _=>true | .str _,.str _=>true | .byt _,.byt _=>true
 | .int _,.str _=>true | .str _,.int _=>true | .bl _,.str _=>true | .str _,.bl _=>true
 | _,_=>false
def rEq:R2:=fun x y H Q=>qke x y=true∧Q (.bl (decide (x=y))) H
def rNe:R2:=fun x y H Q=>qke x y=true∧Q (.bl (!decide (x=y))) H
theorem qbf {i j:Int}:decide (V.int i=V.int j)=(i==j):=by
 rw [Cc];simp
theorem qfi {i j:Bool}:decide (V.bl i=V.bl j)=(i==j):=by
 rw [Cc];simp
theorem qbe {i j:Str}:decide (V.str i=V.str j)=(i==j):=by
 rw [Cc];simp
theorem qbg {i j:Array UInt8}:decide (V.byt i=V.byt j)=(i.toList==j.toList):=by
 rw [Cc];cases i;cases j;simp
section
variable {X:Cx} {a b c:Expr} {ta tb tc:TE} {pos:Pos}
theorem qS {pins:List (Addr×Obj)} {σ:St} {H:Hp} {s:Shared} {Q:VK} {k k':Bool} (I:Inv X pins σ H s) (q:Q (.bl k) H) (e:k=k'):EP X pins σ Q (.bool k') s:=by
 subst e;exact ⟨.bl k,H,I,rfl,q⟩
theorem zy:OpR X (compareOp .Eq) rEq:=by
 intro pins s σ H x y v u Q I rx ry h;obtain ⟨hs,q⟩:=h;cases x with
 | non=>
  cases rx;cases y with
  | non=>cases ry;exact PySem.EqNone.eq_none_none (qS I q (by simp))
  | bl j=>cases ry;exact PySem.EqNone.eq_none_bool (qS I q (by simp))
  | int j=>obtain ⟨t',rfl⟩:=ry;exact PySem.EqNone.eq_none_int (qS I q (by simp))
  | str j=>obtain ⟨t',rfl⟩:=ry;exact PySem.EqNone.eq_none_str (qS I q (by simp))
  | _=>exact absurd (show false=true from hs) Ag
 | bl i=>
  cases rx;cases y with
  | non=>cases ry;exact PySem.EqNone.eq_bool_none (qS I q (by simp))
  | bl j=>cases ry;exact eq_bool (qS I q qfi)
  | str j=>obtain ⟨t',rfl⟩:=ry;exact PySem.EqMixed.eq_bool_str (qS I q (by simp))
  | _=>exact absurd (show false=true from hs) Ag
 | int i=>
  obtain ⟨t,rfl⟩:=rx;cases y with
  | non=>cases ry;exact PySem.EqNone.eq_int_none (qS I q (by simp))
  | int j=>obtain ⟨t',rfl⟩:=ry;exact eq_int (qS I q qbf)
  | str j=>obtain ⟨t',rfl⟩:=ry;exact PySem.EqMixed.eq_int_str (qS I q (by simp))
  | _=>exact absurd (show false=true from hs) Ag
 | str i=>
  obtain ⟨t,rfl⟩:=rx;cases y with
  | non=>cases ry;exact PySem.EqNone.eq_str_none (qS I q (by simp))
  | bl j=>cases ry;exact PySem.EqMixed.eq_str_bool (qS I q (by simp))
  | int j=>obtain ⟨t',rfl⟩:=ry;exact PySem.EqMixed.eq_str_int (qS I q (by simp))
  | str j=>obtain ⟨t',rfl⟩:=ry;exact eq_str (qS I q qbe)
  | _=>exact absurd (show false=true from hs) Ag
 | byt i=>
  obtain ⟨t,rfl⟩:=rx;cases y with
  | byt j=>obtain ⟨t',rfl⟩:=ry;exact PySem.W.eq_bytes (qS I q qbg)
  | _=>exact absurd (show false=true from hs) Ag
 | _=>cases y <;> exact absurd (show false=true from hs) Ag
theorem qeq:OpR X (compareOp .NotEq) rNe:=by
 intro pins s σ H x y v u Q I rx ry h;obtain ⟨hs,q⟩:=h;cases x with
 | non=>
  cases rx;cases y with
  | non=>cases ry;exact PySem.EqNone.ne_none_none (qS I q (by simp))
  | bl j=>cases ry;exact PySem.EqNone.ne_none_bool (qS I q (by simp))
  | int j=>obtain ⟨t',rfl⟩:=ry;exact PySem.EqNone.ne_none_int (qS I q (by simp))
  | str j=>obtain ⟨t',rfl⟩:=ry;exact PySem.EqNone.ne_none_str (qS I q (by simp))
  | _=>exact absurd (show false=true from hs) Ag
 | bl i=>
  cases rx;cases y with
  | non=>cases ry;exact PySem.EqNone.ne_bool_none (qS I q (by simp))
  | bl j=>cases ry;exact ne_bool (qS I q (congrArg not qfi))
  | str j=>obtain ⟨t',rfl⟩:=ry;exact PySem.EqMixed.ne_bool_str (qS I q (by simp))
  | _=>exact absurd (show false=true from hs) Ag
 | int i=>
  obtain ⟨t,rfl⟩:=rx;cases y with
  | non=>cases ry;exact PySem.EqNone.ne_int_none (qS I q (by simp))
  | int j=>obtain ⟨t',rfl⟩:=ry;exact ne_int (qS I q (congrArg not qbf))
  | str j=>obtain ⟨t',rfl⟩:=ry;exact PySem.EqMixed.ne_int_str (qS I q (by simp))
  | _=>exact absurd (show false=true from hs) Ag
 | str i=>
  obtain ⟨t,rfl⟩:=rx;cases y with
  | non=>cases ry;exact PySem.EqNone.ne_str_none (qS I q (by simp))
  | bl j=>cases ry;exact PySem.EqMixed.ne_str_bool (qS I q (by simp))
  | int j=>obtain ⟨t',rfl⟩:=ry;exact PySem.EqMixed.ne_str_int (qS I q (by simp))
  | str j=>obtain ⟨t',rfl⟩:=ry;exact ne_str (qS I q (congrArg not qbe))
  | _=>exact absurd (show false=true from hs) Ag
 | byt i=>
  obtain ⟨t,rfl⟩:=rx;cases y with
  | byt j=>obtain ⟨t',rfl⟩:=ry;exact PySem.W.ne_bytes (qS I q (congrArg not qbg))
  | _=>exact absurd (show false=true from hs) Ag
 | _=>cases y <;> exact absurd (show false=true from hs) Ag
theorem Vd:OpR X (compareOp .Lt) (rI0 fun i j=> .bl (decide (i<j))):=qi7 fun _ _ _ _ _ _ _ q=>lt_int q
theorem ZE:OpR X (compareOp .LtE) (rI0 fun i j=> .bl (decide (i≤j))):=qi7 fun _ _ _ _ _ _ _ q=>le_int q
theorem qaw:OpR X (compareOp .Gt) (rI0 fun i j=> .bl (decide (j<i))):=qi7 fun _ _ _ _ _ _ _ q=>gt_int q
theorem QM:OpR X (compareOp .Is) (fun x y H Q=>y= .non∧Q (.bl (decide (x= .non))) H):=by
 intro pins s σ H x y v u Q I rx ry h;obtain ⟨rfl,q⟩:=h;cases ry;refine is_none_gen (qS I q ?_);cases x <;> first
  | (cases rx;rfl)
  | (obtain ⟨t,rfl⟩:=rx;rfl)
theorem qav:OpR X (compareOp .IsNot) (fun x y H Q=>y= .non∧Q (.bl (!decide (x= .non))) H):=by
 intro pins s σ H x y v u Q I rx ry h;obtain ⟨rfl,q⟩:=h;cases ry;refine isnot_none_gen (qS I q ?_);cases x <;> first
  | (cases rx;rfl)
  | (obtain ⟨t,rfl⟩:=rx;rfl)
theorem OpR.or {f:Value→Value→Sem Value} {r r':R2} (h:OpR X f r) (h':OpR X f r'):OpR X f (fun x y H Q=>r x y H Q∨r' x y H Q):=by
 intro pins s σ H x y v u Q I rx ry q;rcases q with q | q
 ·exact h pins s σ H x y v u Q I rx ry q
 ·exact h' pins s σ H x y v u Q I rx ry q
theorem qD (b:Expr) {op:CmpOp} (h:op≠ .In:=by decide) (h2:op≠ .NotIn:=by decide):behindInMarks op b=false:=by
 have e1:(op==CmpOp.In)=false:=by cases op <;> first | rfl | exact absurd rfl h
 have e2:(op==CmpOp.NotIn)=false:=by cases op <;> first | rfl | exact absurd rfl h2
 cases b <;> simp [behindInMarks,e1,e2]
theorem jF {op:CmpOp} {r:R2} (ho:OpR X (compareOp op) r) (ha:PE X a ta) (hb:PE X b tb) (hm:behindInMarks op b=false):PE X (.Compare a [op] [b] pos) (tOp r ta tb):=by
 intro pins s σ H Q I h;exact wpAny_Compare1 (qjx ha hb I h fun v u s2 x y H2 I2 rx ry q=>ho pins s2 σ H2 x y v u Q I2 rx ry q) hm
def qI (t:TE):TT:=fun σ H Q=>t σ H fun x H'=>∃ k,x= .bl k∧Q k H'
theorem qt {op:CmpOp} {r:R2} (ho:OpR X (compareOp op) r) (ha:PE X a ta) (hb:PE X b tb) (hm:behindInMarks op b=false):PT X (.Compare a [op] [b] pos) (qI (tOp r ta tb)):=by
 intro pins s σ H Q I h;refine wpAny_isTrue_Compare1 (thn (ha pins s σ H _ I h) fun v s1 ⟨x,H1,I1,r1,q1⟩=>thn (hb pins s1 σ H1 _ I1 q1) fun u s2 ⟨y,H2,I2,r2,q2⟩=>
  thn (ho pins s2 σ H2 x y v u _ I2 r1 r2 q2) fun c s3 ⟨z,H3,I3,r3,k,e,q3⟩=>?_) hm
 subst e;cases r3;exact Cl ⟨H3,I3,q3⟩
def qds (r r':R2) (ta tb tc:TE):TE:=fun σ H Q=>ta σ H fun x H1=>tb σ H1 fun y H2=>r x y H2 fun z H3=>∃ k,z= .bl k∧
 (if k=true then tc σ H3 fun w' H4=>r' y w' H4 Q else Q (.bl false) H3)
theorem ZC {op op':CmpOp} {r r':R2} (ho:OpR X (compareOp op) r) (ho':OpR X (compareOp op') r') (ha:PE X a ta) (hb:PE X b tb) (hc:PE X c tc)
  (hm:lastMarks [op,op'] [b,c]=false:=by with_unfolding_all rfl):PE X (.Compare a [op,op'] [b,c] pos) (qds r r' ta tb tc):=by
 intro pins s σ H Q I h;refine Compare_chain (thn (ha pins s σ H _ I h) fun v s1 ⟨x,H1,I1,r1,q1⟩=>chain_link (thn (hb pins s1 σ H1 _ I1 q1) fun u s2 ⟨y,H2,I2,r2,q2⟩=>
  thn (ho pins s2 σ H2 x y v u _ I2 r1 r2 q2) fun d s3 ⟨z,H3,I3,r3,k,e,q3⟩=>?_)) hm
 subst e;cases r3;refine Cl ?_;cases k with
 | false=>exact ite_ff ⟨.bl false,H3,I3,rfl,q3⟩
 | true=>exact ite_tt (chain_last (thn (hc pins s3 σ H3 _ I3 q3) fun w' s4 ⟨z',H4,I4,r4,q4⟩=>ho' pins s4 σ H4 y z' u w' Q I4 r2 r4 q4))
theorem qeh {op op':CmpOp} {r r':R2} (ho:OpR X (compareOp op) r) (ho':OpR X (compareOp op') r') (ha:PE X a ta) (hb:PE X b tb) (hc:PE X c tc)
  (hm:lastMarks [op,op'] [b,c]=false:=by with_unfolding_all rfl):PT X (.Compare a [op,op'] [b,c] pos) (qI (qds r r' ta tb tc)):=by
 intro pins s σ H Q I h;refine isTrue_chain (thn (ha pins s σ H _ I h) fun v s1 ⟨x,H1,I1,r1,q1⟩=>test_link (thn (hb pins s1 σ H1 _ I1 q1) fun u s2 ⟨y,H2,I2,r2,q2⟩=>
  thn (ho pins s2 σ H2 x y v u _ I2 r1 r2 q2) fun d s3 ⟨z,H3,I3,r3,k,e,q3⟩=>?_)) hm
 subst e;cases r3;refine Cl ?_;cases k with
 | false=>
  obtain ⟨k',e',q'⟩:=q3;cases e';exact ite_ff ⟨H3,I3,q'⟩
 | true=>
  refine ite_tt (test_last (thn (hc pins s3 σ H3 _ I3 q3) fun w' s4 ⟨z',H4,I4,r4,q4⟩=>thn (ho' pins s4 σ H4 y z' u w' _ I4 r2 r4 q4) fun d' s5 ⟨z2,H5,I5,r5,k2,e2,q5⟩=>?_));subst e2;cases r5;exact Cl ⟨H5,I5,q5⟩
def qfq (K:Frag) (x:V) (H:Hp) (k:Bool):Prop:=
 match x with
 | .non=>k=false
 | .bl b=>k=b
 | .int i=>k=(i !=0)
 | .str y=>y.length≤sizeLine∧k=((y.length:Int) !=0)
 | .byt y=>y.size≤sizeLine∧k=((y.size:Int) !=0)
 | .ref p=>(∃ xs,SqL K H p xs∧k=!xs.isEmpty)∨(∃ xs,SqT K H p xs∧k=!xs.isEmpty)∨∃ kvs,H p=some (.dK kvs)∧k=!kvs.isEmpty
 | _=>False
theorem QW {κ:Type} {kvs:List (κ×V)} {vs:List (κ×Value)} (r:KV kvs vs):(!vs.isEmpty)=!kvs.isEmpty:=by
 cases r <;> rfl
theorem yq {xs:List V} {its:List Value} (r:qP xs its):(!its.toArray.isEmpty)=!xs.isEmpty:=by
 cases r <;> simp
theorem wm:(sizeLine:Nat)<2 ^ 63:=by rw [E4];decide
theorem qh6:TruR X (fun x H Q=>∃ k,qfq X.K x H k∧Q k H):=by
 intro pins s σ H x v Q I rx h;obtain ⟨k,e,q⟩:=h;have hl:=wm;have hs:sizeLine=16777216:=E4;cases x with
 | non=>
  cases rx;have e':k=false:=e;subst e';exact truthy_none ⟨H,I,q⟩
 | bl b=>
  cases rx;have e':k=b:=e;subst e';exact Cl ⟨H,I,q⟩
 | int i=>
  obtain ⟨t,rfl⟩:=rx;have e':k=(i !=0):=e;subst e';exact PySem.P.truthy_int ⟨H,I,q⟩
 | str y=>
  obtain ⟨t,rfl⟩:=rx;obtain ⟨hy,e'⟩:y.length≤sizeLine∧k=((y.length:Int) !=0):=e;subst e';exact PySem.P.truthy_str ⋯ ⟨H,I.tok _,q⟩
 | byt y=>
  obtain ⟨t,rfl⟩:=rx;obtain ⟨hy,e'⟩:y.size≤sizeLine∧k=((y.size:Int) !=0):=e;subst e';exact PySem.W.truthy_bytes ⋯ ⟨H,I.tok _,q⟩
 | ref p=>
  cases rx;have e':(∃ xs,SqL X.K H p xs∧k=!xs.isEmpty)∨(∃ xs,SqT X.K H p xs∧k=!xs.isEmpty)∨∃ kvs,H p=some (.dK kvs)∧k=!kvs.isEmpty:=e;rcases e' with ⟨xs,hx,e'⟩ | ⟨xs,hx,e'⟩ | ⟨kvs,hx,e'⟩
  ·subst e';obtain ⟨its,r,pl,hz⟩:=I.list hx;have hlen:=r.length;exact wpAny_truthy_list pl.isList (by simp only [Ar];omega) ⟨H,I.tok _,by rw [yq r];exact q⟩
  ·subst e';obtain ⟨its,r,pl,hz⟩:=I.tuple hx;have hlen:=r.length;exact truthy_tuple pl (by simp only [Ar];omega) ⟨H,I.tok _,by rw [yq r];exact q⟩
  ·subst e';obtain ⟨hz,hS,vs,r,m⟩:kvs.length≤sizeLine∧(p==sysModules)=false∧∃ vs,KV kvs vs∧s.heap.DictOf (ze X.prog X.w) p vs:=I.hok p _ hx;have hlen:kvs.length=vs.length:=Ce r;exact wpAny_truthy_dict hS m ⋯ ⟨H,I.tok _,by rw [QW r];exact q⟩
 | _=>exact (show False from e).elim
theorem qef (ha:PE X a ta) (he:∀ whole,isTrue a X.env whole=(do let v ← whole;standAt a.pos;holding [v] (truthy v))):
  PT X a (fun σ H Q=>ta σ H fun x H'=>∃ k,qfq X.K x H' k∧Q k H'):=by
 intro pins s σ H Q I h;exact isTrue_plain (thn (ha pins s σ H _ I h) fun v s1 ⟨x,H1,I1,r1,q1⟩=>qh6 pins s1 σ H1 x v Q I1 r1 q1) (he _)
theorem QN:OpR X (binaryOp .Add) (fun x y H Q=>∃ i j,x= .str i∧y= .str j∧i.length+j.length≤sizeLine∧Q (.str (i++j)) H):=by
 intro pins s σ H x y v u Q I rx ry h;obtain ⟨i,j,rfl,rfl,hz,q⟩:=h;obtain ⟨t,rfl⟩:=rx;obtain ⟨t',rfl⟩:=ry;exact add_str (fun t' tk=>⟨.str (i++j),H,I.tok _,⟨_,rfl⟩,q⟩) hz
theorem Ja {x:V} {us:List Value} (r:qP [x] us):∃ u,us=[u]∧qM x u:=by
 cases r with
 | cons r1 r2=>cases r2;exact ⟨_,rfl,r1⟩
theorem qae {x y:V} {us:List Value} (r:qP [x,y] us):∃ u w',us=[u,w']∧qM x u∧qM y w':=by
 cases r with
 | cons r1 r2=>
  cases r2 with
  | cons r3 r4=>cases r4;exact ⟨_,_,rfl,r1,r3⟩
theorem qc8 (hc:X.calm=true):jK X (.builtin "max") (fun xs H Q=>∃ i j,xs=[.int i,.int j]∧Q (.int (if j>i then j else i)) H):=by
 intro pins s σ H xs us Q I r h;obtain ⟨i,j,rfl,q⟩:=h;obtain ⟨u,w',rfl,⟨t,rfl⟩,⟨t',rfl⟩⟩:=qae r;refine max_two_ints (I.ok.hd hc) fun h' tk k=>⟨_,H,I.kept k,?_,q⟩
 by_cases hj:j>i
 ·rw [if_pos hj,if_pos hj];exact ⟨_,rfl⟩
 ·rw [if_neg hj,if_neg hj];exact ⟨_,rfl⟩
theorem qda:jK X (.type "int") (fun xs H Q=>(∃ i,xs=[.int i]∧Q (.int i) H)∨∃ k,xs=[.bl k]∧Q (.int (if k then 1 else 0)) H):=by
 intro pins s σ H xs us Q I r h;rcases h with ⟨i,rfl,q⟩ | ⟨k,rfl,q⟩
 ·obtain ⟨u,rfl,t,rfl⟩:=Ja r;exact call_int_int ⟨.int i,H,I,⟨_,rfl⟩,q⟩
 ·obtain ⟨u,rfl,r1⟩:=Ja r;cases r1;exact call_int_bool ⟨.int (if k then 1 else 0),H,I.tok _,⟨_,rfl⟩,q⟩
def v9 (K:Frag) (x:V) (H:Hp) (n:Nat):Prop:=
 match x with
 | .str y=>y.length≤sizeLine∧n=y.length
 | .byt y=>y.size≤sizeLine∧n=y.size
 | .ref p=>(∃ xs,SqL K H p xs∧n=xs.length)∨∃ xs,SqT K H p xs∧n=xs.length
 | _=>False
theorem qfj:jK X (.builtin "len") (fun xs H Q=>∃ x n,xs=[x]∧v9 X.K x H n∧Q (.int n) H):=by
 intro pins s σ H xs us Q I r h;obtain ⟨x,n,rfl,e,q⟩:=h;obtain ⟨u,rfl,rx⟩:=Ja r;have hl:=wm;have hs:sizeLine=16777216:=E4;cases x with
 | str y=>
  obtain ⟨t,rfl⟩:=rx;obtain ⟨hy,e'⟩:y.length≤sizeLine∧n=y.length:=e;subst e';exact len_str ⋯ ⟨.int _,H,I.tok _,⟨_,rfl⟩,q⟩
 | byt y=>
  obtain ⟨t,rfl⟩:=rx;obtain ⟨hy,e'⟩:y.size≤sizeLine∧n=y.size:=e;subst e';exact PySem.W.len_bytes ⋯ ⟨.int _,H,I.tok _,⟨_,rfl⟩,q⟩
 | ref p=>
  cases rx;have e':(∃ xs,SqL X.K H p xs∧n=xs.length)∨∃ xs,SqT X.K H p xs∧n=xs.length:=e;rcases e' with ⟨xs,hx,e'⟩ | ⟨xs,hx,e'⟩
  ·subst e';obtain ⟨its,r',pl,hz⟩:=I.list hx;have hlen:=r'.length;exact Calls.call_len_list pl.isList (by simp only [Ar];omega) ⟨.int xs.length,H,I.tok _,⟨_,by simp only [Ar];rw [hlen]⟩,q⟩
  ·subst e';obtain ⟨its,r',pl,hz⟩:=I.tuple hx;have hlen:=r'.length;exact len_tuple pl (by simp only [Ar];omega) ⟨.int xs.length,H,I.tok _,⟨_,by simp only [Ar];rw [hlen]⟩,q⟩
 | _=>exact (show False from e).elim
end
structure ObjM (h:Heap) (x dx C:Addr) (mA:Str→Option Value):Prop where
 obj:h.get? x=some (PySem.W.instObj C dx)
 ns:h.Ns1 dx mA
 ne:dx≠x
theorem YT {h:Heap} {dx:Addr} {mA:Str→Option Value} (n:h.Ns1 dx mA):∃ od,h.get? dx=some od∧∀ name,PySem.W.lookIn name od=some (mA name):=by
 obtain ⟨o,es,ep,ho,hd,hk,_,hm⟩:=n;refine ⟨o,ho,fun name=>?_⟩;have e:=hm name;unfold nsFind findBy at e;rw [← Array.find?_toList] at e;unfold PySem.W.lookIn;rw [hd];dsimp only;split
 ·rename_i y q;rw [q] at e;exact congrArg some e
 ·rename_i q;rw [q] at e;have a:es.toList.any (·.refKey)=false:=by
   rw [List.any_eq_false];intro y hy;obtain ⟨z,t,hkey⟩:=hk y (Array.mem_toList_iff.mp hy);simp [DictEntry.refKey,hkey]
  have a':¬ es.toList.any (·.refKey)=true:=by rw [a];exact Ag
  rw [if_neg a'];exact congrArg some e
theorem ObjM.look {h:Heap} {x dx C:Addr} {mA:Str→Option Value} (I:ObjM h x dx C mA):∃ od,PySem.W.InstAt h x (PySem.W.instObj C dx) C (some od)∧∀ name,PySem.W.lookIn name od=some (mA name):=
 let ⟨od,ho,hl⟩:=YT I.ns
 ⟨od,⟨I.obj,rfl,rfl,ho⟩,hl⟩
section
variable {prog:Program} {w:World} {A:Around} {E:Value→Shared→Prop} {s:Shared} {K:Frag} {x dx C f:Addr} {mA:Str→Option Value} {name:Str} {v:Value}
theorem qg9 {expr:Bool} {Q:Value→Shared→Prop} (X:K.In s.heap) (I:ObjM s.heap x dx C mA) (hg:PySem.W.plainGet K C name=true) (hh:PySem.W.hasDictIn K C=true)
  (ha:PySem.W.findIn K (.ref C) name=some none) (hv:mA name=some v) (hv':PySem.W.handedIn v=true) (h:Q v {s with toks:=s.toks+1}):
  wpAny (model prog w) A (getAttr (.ref x) name expr) Q E s:=by
 obtain ⟨od,J,hl⟩:=I.look;exact PySem.W.get_value X J (PySem.W.plainGet_of hg).1 (PySem.W.findObj_own hh ha rfl (by rw [hl,hv])) hv' h
theorem qe7 {pl:Sem Bool} {Q:Value×List Value→Shared→Prop} (X:K.In s.heap) (I:ObjM s.heap x dx C mA) (hg:PySem.W.plainGet K C name=true)
  (hf:PySem.W.findIn K (.ref C) name=some (some (.ref f))) (ht:PySem.W.isFn K (.ref f)=true) (hv:mA name=none) (h:Q (.ref f,[.ref x]) s):
  wpAny (model prog w) A (getMethod (.ref x) name pl) Q E s:=by
 obtain ⟨od,J,hl⟩:=I.look;exact PySem.W.method_fn X J (PySem.W.plainGet_of hg).1 (PySem.W.plainGet_of hg).2 hf (Ax.mp ht) (by show (PySem.W.lookIn name od).map (·.isSome)=some false;rw [hl,hv];rfl) h
theorem qf8 {ns:List Str} {Q:Unit→Shared→Prop} (X:K.In s.heap) (I:ObjM s.heap x dx C mA)
  (hs:PySem.W.findIn K (.ref C) "__setattr__"=some (some (.builtin "object.__setattr__"))) (hp:PySem.W.plainOver K C=true) (ht:PySem.W.takerIn K C name=some none) (hh:PySem.W.hasDictIn K C=true)
  (hw:PySem.Within mA ns) (hsz:ns.length≤sizeLine)
  (h:∀ h',ObjM h' x dx C (fun y=>if y=name then some v else mA y)→Heap.SameBut dx s.heap h'→Q () {s with heap:=h',toks:=s.toks+2}):
  wpAny (model prog w) A (setAttr (.ref x) name v) Q E s:=by
 obtain ⟨od,J,hl⟩:=I.look;refine PySem.W.set_plain X J hs (PySem.W.osa_open (s:={s with toks:=s.toks+1}) (r:=none) X J hp ht fun b=>?_)
 obtain ⟨cd,hc,hd'⟩:=PySem.W.any_some hh;have hx:s.heap.get? x=some ⟨.ref C,some dx,.plain,#[]⟩:=I.obj;refine Aa (Ai (Aa (Aa (wpAny_loadPart hx (Aa (Dw (s:={s with toks:=s.toks+1}) (PySem.W.looks_clsIn X hc) ?_))))))
 rw [hd'];refine Ai (a:=some dx) (Aa (Ai (Aa ?_)));refine wpAny_nsSet1 (s:={s with toks:=s.toks+1}) I.ns fun h' hn2 hs2=>?_
 obtain ⟨oD,esD,epD,hoD,hdD,hcD⟩:=hn2.count (PySem.Within.cons name v hw);refine Aa (wpAny_lookBehind hoD (by rw [hdD];exact pastItsLine_dict (Av hcD (by rw [Aj];omega))) ?_)
 exact Ai (h _ ⟨(hs2.2 _ (Ne.symm I.ne)).trans I.obj,hn2,I.ne⟩ hs2)
theorem qew {R:Result→Shared→Prop} {vs:List Value} {kw:List (Str×Value)} (X:K.In s.heap) (hm:PySem.W.makesIn K C=true)
  (hi:PySem.W.findIn K (.ref C) "__init__"=some (some (.ref f))) (hf:PySem.W.typeIn K (.ref f)=some (.type "function"))
  (h:codeAny (model prog w) (A.under (.builtin "type.__call__" ⟨.ref C::vs,kw⟩)) (.call (.ref f) ⟨.ref (s.heap.objs.size+1)::vs,kw⟩) (PySem.W.InitBack (s.heap.objs.size+1) R)
   {s with heap:=(s.heap.push PySem.W.emptyDict).push (PySem.W.instObj C s.heap.objs.size)}):
  codeAny (model prog w) A (.call (.ref C) ⟨vs,kw⟩) R s:=by
 obtain ⟨hh,g,d,t,os⟩:=s;exact PySem.W.make_core (PySem.W.makes_of X hm) (C7 X hi) (fun self=>PySem.W.bind_fn X self hf) (.inl rfl) h
end
def qC (f:Str) (v:V):List (Str×V)→List (Str×V)
 | []=>[(f,v)]
 | (g,x)::r=>if g=f then (g,v)::r else (g,x)::qC f v r
theorem Wg (f g:Str) (v:V):∀ fs:List (Str×V),(qC f v fs).lookup g=if g=f then some v else fs.lookup g
 | []=>by
  show List.lookup g [(f,v)]=_
  by_cases h:g=f
  ·have hb:(g==f)=true:=Ax.mpr h;simp only [List.lookup,hb,if_pos h]
  ·have hb:(g==f)=false:=Bc.mpr h;simp only [List.lookup,hb,if_neg h]
 | (k,x)::r=>by
  have ih:=Wg f g v r;rw [show qC f v ((k,x)::r)=(if k=f then (k,v)::r else (k,x)::qC f v r) from rfl]
  by_cases hk:k=f
  ·rw [if_pos hk]
   by_cases h:g=k
   ·have hb:(g==k)=true:=Ax.mpr h;simp only [List.lookup,hb,if_pos (h.trans hk)]
   ·have hb:(g==k)=false:=Bc.mpr h;simp only [List.lookup,hb,if_neg (fun e:g=f=>h (e.trans hk.symm))]
  ·rw [if_neg hk]
   by_cases h:g=k
   ·have hb:(g==k)=true:=Ax.mpr h;simp only [List.lookup,hb,if_neg (fun e:g=f=>hk (h.symm.trans e))]
   ·have hb:(g==k)=false:=Bc.mpr h;simp only [List.lookup,hb];exact ih
theorem wq (f:Str) (v:V):∀ fs:List (Str×V),f∈(qC f v fs).map (·.1)∧∀ g,g∈fs.map (·.1)→g∈(qC f v fs).map (·.1)
 | []=>⟨by simp [qC],fun g h=>by simp at h⟩
 | (k,x)::r=>by
  obtain ⟨i1,i2⟩:=wq f v r;rw [show qC f v ((k,x)::r)=(if k=f then (k,v)::r else (k,x)::qC f v r) from rfl]
  by_cases hk:k=f
  ·rw [if_pos hk];subst hk;exact ⟨by simp,fun g h=>by simpa using h⟩
  ·rw [if_neg hk];refine ⟨?_,fun g h=>?_⟩
   ·rw [Ba];exact Am _ i1
   ·rw [Ba] at h ⊢;rcases Ap.mp h with e | e
    ·exact Ap.mpr (.inl e)
    ·exact Am _ (i2 g e)
theorem Wh (f:Str) (v:V):∀ fs:List (Str×V),(qC f v fs).length≤fs.length+1
 | []=>by simp [qC]
 | (k,x)::r=>by
  have ih:=Wh f v r;rw [show qC f v ((k,x)::r)=(if k=f then (k,v)::r else (k,x)::qC f v r) from rfl]
  by_cases hk:k=f
  ·rw [if_pos hk,Aj,Aj];omega
  ·rw [if_neg hk,Aj,Aj];omega
theorem vK.some_of {v:V} {o:Option Value} (r:vK (some v) o):∃ u,o=some u∧qM v u:=by
 cases o with
 | none=>exact (show False from r).elim
 | some u=>exact ⟨u,rfl,r⟩
theorem vK.none_of {o:Option Value} (r:vK none o):o=none:=by
 cases o with
 | none=>rfl
 | some u=>exact (show False from r).elim
theorem YZ {v:V} {u:Value} (r:qM v u):PySem.W.handedIn u=true:=by
 cases v with
 | non=>cases (show u=Value.none from r);rfl
 | bl b=>cases (show u=Value.bool b from r);rfl
 | int i=>obtain ⟨t,e⟩:=(show ∃ t,u=Value.int i t from r);cases e;rfl
 | str x=>obtain ⟨t,e⟩:=(show ∃ t,u=Value.str x t from r);cases e;rfl
 | byt b=>obtain ⟨t,e⟩:=(show ∃ t,u=Value.bytes b t from r);cases e;rfl
 | flt b=>obtain ⟨t,e⟩:=(show ∃ t,u=Value.float b t from r);cases e;rfl
 | ref a=>cases (show u=Value.ref a from r);rfl
 | ty n=>cases (show u=Value.type n from r);rfl
section
variable {P:Program} {w:World} {H H':Hp} {h h':Heap} {a C dx:Addr} {fs fs':List (Str×V)}
theorem WQ (hok:HOk P w H h) (e:H a=some (.ins C dx fs)):∃ mA,ObjM h a dx C mA∧(∀ f,vK (fs.lookup f) (mA f))∧PySem.Within mA (fs.map (·.1))∧fs.length≤1000∧H dx=some (.own a):=by
 obtain ⟨d,z,ne,ob,mA,n,r,q⟩:=(show zd P w H h a (.ins C dx fs) from hok a _ e);exact ⟨mA,⟨ob,n,ne⟩,r,q,z,d⟩
end
structure Cls (K:Frag) (C:Addr):Prop where
 pg:PySem.W.plainGet K C Str.empty=true
 hd:PySem.W.hasDictIn K C=true
 po:PySem.W.plainOver K C=true
 sa:PySem.W.findIn K (.ref C) "__setattr__"=some (some (.builtin "object.__setattr__"))
theorem Cls.get {K:Frag} {C:Addr} (c:Cls K C) (f:Str):PySem.W.plainGet K C f=true:=c.pg
def w8 (K:Frag) (C:Addr) (f:Str):Prop:=PySem.W.findIn K (.ref C) f=some none
theorem w8.taker {K:Frag} {C:Addr} {f:Str} (n:w8 K C f):PySem.W.takerIn K C f=some none:=by
 unfold PySem.W.takerIn;rw [show PySem.W.findIn K (.ref C) f=some none from n];rfl
structure Meth (K:Frag) (C:Addr) (m:Str) (f:Addr):Prop where
 at_:PySem.W.findIn K (.ref C) m=some (some (.ref f))
 fn:PySem.W.isFn K (.ref f)=true
 kp:PySem.W.keepIn K (.ref f)=true
section
variable {X:Cx} {pins:List (Addr×Obj)} {σ:St} {H:Hp} {s:Shared} {a C dx:Addr} {fs:List (Str×V)} {f:Str} {v:V} {A:Around} {E:Value→Shared→Prop}
theorem QZ {b:Bool} {Q:Value→Shared→Prop} (I:Inv X pins σ H s) (e:H a=some (.ins C dx fs)) (c:Cls X.K C) (n:w8 X.K C f) (l:fs.lookup f=some v)
  (h:∀ u s',Inv X pins σ H s'→qM v u→Q u s'):wpAny (model X.prog X.w) A (getAttr (.ref a) f b) Q E s:=by
 obtain ⟨mA,O,r,_,_,_⟩:=WQ I.hok e;obtain ⟨u,hu,ru⟩:=vK.some_of (v:=v) (o:=mA f) (by rw [← l];exact r f)
 exact qg9 I.kIn O (c.get f) c.hd n hu (YZ ru) (h u _ (I.tok _) ru)
theorem QY {m:Str} {g:Addr} {pl:Sem Bool} {Q:Value×List Value→Shared→Prop} (I:Inv X pins σ H s) (e:H a=some (.ins C dx fs)) (c:Cls X.K C) (k:Meth X.K C m g) (l:fs.lookup m=none)
  (h:Q (.ref g,[.ref a]) s):wpAny (model X.prog X.w) A (getMethod (.ref a) m pl) Q E s:=by
 obtain ⟨mA,O,r,_,_,_⟩:=WQ I.hok e;have hn:mA m=none:=vK.none_of (by rw [← l];exact r m)
 exact qe7 I.kIn O (c.get m) k.at_ k.fn hn h
theorem QE {y:V} {u:Value} {Q:Unit→Shared→Prop} (I:Inv X pins σ H s) (e:H a=some (.ins C dx fs)) (c:Cls X.K C) (n:w8 X.K C f) (hl:fs.length<1000) (ry:qM y u)
  (h:∀ s',Inv X pins σ (upd H a (.ins C dx (qC f y fs))) s'→Q () s'):wpAny (model X.prog X.w) A (setAttr (.ref a) f u) Q E s:=by
 obtain ⟨mA,O,r,wi,_,ho⟩:=WQ I.hok e;have hz:(fs.map (·.1)).length≤sizeLine:=by rw [Ab,E4];omega
 refine qf8 I.kIn O c.sa c.po n.taker c.hd wi hz fun h' O' sb=>h _ ?_;have hd:∃ o,h'.get? dx=some o:=let ⟨o,_,_,e',_⟩:=O'.ns;⟨o,e'⟩;refine I.write (x:=a) (e:=dx) (by rw [e];exact True.intro) (.inr ho) (fun b q hb z=>(sb.2 b hb).trans z) hd ?_
 refine ⟨by rw [qm O.ne];exact ho,?_,O.ne,O'.obj,_,O'.ns,fun g=>?_,fun g hg=>?_⟩
 ·have:=Wh f y fs;omega
 ·show vK ((qC f y fs).lookup g) (if g=f then some u else mA g)
  rw [Wg]
  by_cases q:g=f
  ·rw [if_pos q,if_pos q];exact ry
  ·rw [if_neg q,if_neg q];exact r g
 ·by_cases q:g=f
  ·rw [q];exact (wq f y fs).1
  ·refine (wq f y fs).2 g (wi g fun z=>hg ?_);show (if g=f then some u else mA g)=none
   rw [if_neg q];exact z
theorem Inv.made (I:Inv X pins σ H s):Inv X pins σ (upd (upd H s.heap.objs.size (.own (s.heap.objs.size+1))) (s.heap.objs.size+1) (.ins C s.heap.objs.size []))
  {s with heap:=(s.heap.push PySem.W.emptyDict).push (PySem.W.instObj C s.heap.objs.size)}:=by
 have e1:(s.heap.push PySem.W.emptyDict).get? s.heap.objs.size=some PySem.W.emptyDict:=Aw s.heap rfl;have e2:((s.heap.push PySem.W.emptyDict).push (PySem.W.instObj C s.heap.objs.size)).get? (s.heap.objs.size+1)=some (PySem.W.instObj C s.heap.objs.size):=by
  have:=Aw (s.heap.push PySem.W.emptyDict) (o:=PySem.W.instObj C s.heap.objs.size) rfl
  rwa [Cy] at this
 have e3:(s.heap.push PySem.W.emptyDict).Ns s.heap.objs.size (fun _=>none):=⟨PySem.W.emptyDict,#[],_,e1,rfl,(fun e he=>absurd he (by simp)),fun _=>rfl⟩
 have I1:=I.laid (a:=s.heap.objs.size) (o:= .own (s.heap.objs.size+1)) (h':=s.heap.push PySem.W.emptyDict) (t':=s.toks) (fun b u q=>Af _ q) (Ah _) ⟨_,e1⟩;refine I1.laid (a:=s.heap.objs.size+1) (o:= .ins C s.heap.objs.size []) (t':=s.toks) (fun b u q=>Af _ q) (Nat.le_of_eq (Cy _ _)) ?_;have ne:s.heap.objs.size≠s.heap.objs.size+1:=A8 (Er _);refine ⟨by rw [qm ne,upd_same],Bm _,ne,e2,fun _=>none,(Heap.Ns1.of_empty e3).at fun o q=>Af _ q,fun _=>True.intro,fun y hy=>absurd rfl hy⟩
theorem qbj {prog:Program} {w:World} {env:Env} {e:Expr} {f:Str} {pos:Pos} {s:Shared} {Q:Value→Shared→Prop} (hb:attributeBase e f env (eval e env)=eval e env)
  (h:wpAny (model prog w) A (eval e env) (fun o s₁=>wpAny (model prog w) A (getAttr o f true) Q E s₁) E s):wpAny (model prog w) A (eval (.Attribute e f pos) env) Q E s:=
 Attribute_any_ h (by rw [arm_eval_Attribute,hb])
end
def V9 (K:Frag) (ta:TE) (f:Str):TE:=fun σ H Q=>ta σ H fun x H1=>∃ a C dx fs v,x= .ref a∧H1 a=some (.ins C dx fs)∧Cls K C∧w8 K C f∧fs.lookup f=some v∧Q v H1
def QG (K:Frag) (ta tv:TE) (f:Str):TS:=fun D σ H=>tv σ H fun y H1=>ta σ H1 fun x H2=>∃ a C dx fs,x= .ref a∧H2 a=some (.ins C dx fs)∧Cls K C∧w8 K C f∧fs.length<1000∧
 D.nx σ (upd H2 a (.ins C dx (qC f y fs)))
section
variable {X:Cx} {o e value:Expr} {f:Str} {pos pos' tpos:Pos} {ta tv:TE}
theorem jN (he:PE X e ta) (hb:attributeBase e f X.env (eval e X.env)=eval e X.env):PE X (.Attribute e f pos) (V9 X.K ta f):=by
 intro pins s σ H Q I h;refine qbj hb (thn (he pins s σ H _ I h) fun u s1 ⟨x,H1,I1,rx,a,C,dx,fs,v,ex,ea,c,n,l,q⟩=>?_);subst ex;obtain rfl:u=Value.ref a:=rx;exact QZ I1 ea c n l fun u' s2 I2 ru=>⟨v,H1,I2,ru,q⟩
theorem wg (ha:PE X o ta) (hv:PE X value tv) (hs:swapsWith value (some (.Attribute o f pos')) pos.line X.env=pure false):PS X (.Assign [.Attribute o f pos'] value pos) (QG X.K ta tv f):=by
 intro pins s σ H D I h;refine plainObj_wpAny_Assign_Attribute (thn (hv pins s σ H _ I h) fun u s1 ⟨y,H1,I1,ry,q⟩=>thn (ha pins s1 σ H1 _ I1 q) fun ov s2 ⟨x,H2,I2,rx,a,C,dx,fs,ex,ea,c,n,l,q2⟩=>?_) hs;subst ex;obtain rfl:ov=Value.ref a:=rx;exact QE I2 ea c n l ry fun s3 I3=>⟨σ,_,I3,q2⟩
end
section
variable {X:Cx} {pins:List (Addr×Obj)} {σ:St} {H:Hp} {s:Shared} {A:Around} {E:Value→Shared→Prop} {Q:Value→Shared→Prop} {c:Value} {b:Bool}
inductive TyOf (K:Frag) (H:Hp):V→Value→Prop where
 | non:TyOf K H .non (.type "NoneType")
 | bl (x:Bool):TyOf K H (.bl x) (.type "bool")
 | int (i:Int):TyOf K H (.int i) (.type "int")
 | str (x:Str):TyOf K H (.str x) (.type "str")
 | flt (x:UInt64):TyOf K H (.flt x) (.type "float")
 | lst {a:Addr} {xs:List V} (e:H a=some (.lst xs)):TyOf K H (.ref a) (.type "list")
 | frz {a:Addr} {o:Obj} {xs:List V} (e:H a=some (.frz o (.lst xs))):TyOf K H (.ref a) (.type "list")
 | tup {a:Addr} {xs:List V} (e:H a=some (.tup xs)):TyOf K H (.ref a) (.type "tuple")
 | dK {a:Addr} {kvs:List (Key×V)} (e:H a=some (.dK kvs)):TyOf K H (.ref a) (.type "dict")
 | dT {a:Addr} {kvs:List (List Key×V)} (e:H a=some (.dT kvs)):TyOf K H (.ref a) (.type "dict")
 | ins {a C dx:Addr} {fs:List (Str×V)} (e:H a=some (.ins C dx fs)) (cl:Cls K C) (ha:PySem.W.findIn K (.ref C) "__class__"=some (some (.builtin "object.__class__")))
   (hn:PySem.W.specialIn K (.builtin "object.__class__") "__get__"=some (some (.builtin "getset_descriptor.__get__"))) (htk:PySem.W.takesIn K (.builtin "object.__class__")=some true)
   (hm:PySem.W.mroIn K C (.type "object")=some true):TyOf K H (.ref a) (.ref C)
theorem vW {x:V} {u t:Value} (I:Inv X pins σ H s) (rx:qM x u) (ty:TyOf X.K H x t) (e:PySem.W.kitOne X.K t c=some b) (h:∀ tk,Q (.bool b) {s with toks:=tk}):
  wpAny (model X.prog X.w) A (call (.builtin "isinstance") [u,c]) Q E s:=by
 cases ty with
 | non=>cases (show u=Value.none from rx);exact B9 PySem.W.kitx_none I.kIn True.intro e (fun z=>nomatch z) h
 | bl y=>cases (show u=Value.bool y from rx);exact B9 PySem.W.kitx_bool I.kIn True.intro e (fun z=>nomatch z) h
 | int i=>obtain ⟨t,q⟩:=(show ∃ t,u=Value.int i t from rx);cases q;exact B9 PySem.W.kitx_int I.kIn True.intro e (fun z=>nomatch z) h
 | str y=>obtain ⟨t,q⟩:=(show ∃ t,u=Value.str y t from rx);cases q;exact B9 PySem.W.kitx_str I.kIn True.intro e (fun z=>nomatch z) h
 | flt y=>obtain ⟨t,q⟩:=(show ∃ t,u=Value.float y t from rx);cases q;exact B9 PySem.W.kitx_float I.kIn True.intro e (fun z=>nomatch z) h
 | @lst a xs ea=>
  cases (show u=Value.ref a from rx);obtain ⟨_,_,n,_,h1⟩:=(show zd X.prog X.w H s.heap a (.lst xs) from I.hok a _ ea);exact B9 PySem.W.kitx_list I.kIn ⟨_,h1,rfl⟩ e (fun z=>nomatch z) h
 | @frz a ob xs ea=>
  cases (show u=Value.ref a from rx);obtain ⟨_,_,_,n,_,h1⟩:=(show zd X.prog X.w H s.heap a (.frz ob (.lst xs)) from I.hok a _ ea);exact B9 PySem.W.kitx_list I.kIn ⟨_,h1,rfl⟩ e (fun z=>nomatch z) h
 | @tup a xs ea=>
  cases (show u=Value.ref a from rx);obtain ⟨_,_,_,p⟩:=(show zd X.prog X.w H s.heap a (.tup xs) from I.hok a _ ea);obtain ⟨o,h1,h2,_⟩:=p;exact B9 PySem.W.kitx_tuple I.kIn ⟨o,h1,h2⟩ e (fun z=>nomatch z) h
 | @dK a kvs ea=>
  cases (show u=Value.ref a from rx);obtain ⟨_,_,vs,_,p⟩:=(show zd X.prog X.w H s.heap a (.dK kvs) from I.hok a _ ea);obtain ⟨o,es,ep,h1,h2,_⟩:=p;exact B9 PySem.W.kitx_dict I.kIn ⟨o,h1,h2.1⟩ e (fun z=>nomatch z) h
 | @dT a kvs ea=>
  cases (show u=Value.ref a from rx);obtain ⟨_,_,xs,_,o,es,ep,h1,h2,_⟩:=(show zd X.prog X.w H s.heap a (.dT kvs) from I.hok a _ ea);exact B9 PySem.W.kitx_dict I.kIn ⟨o,h1,h2.1⟩ e (fun z=>nomatch z) h
 | @ins a C dx fs ea cl ha hn htk hm=>
  cases (show u=Value.ref a from rx);obtain ⟨mA,O,_⟩:=WQ I.hok ea;obtain ⟨od,J,_⟩:=O.look;exact B9 (PySem.W.kitx_own (cl.get _) cl.hd ha hn htk hm) I.kIn J e (fun z=>nomatch z) h
end
structure Room (k:Nat) (A:Around):Prop where
 hd:A.handled=none
 dp:A.depth+3*k+5<recursionLimit
 un:A.units+16*k+200<cLine
theorem Room.mono {j k:Nat} {A:Around} (r:Room k A) (h:j≤k):Room j A:=⟨r.hd,by have:=r.dp;omega,by have:=r.un;omega⟩
theorem Room.deeper {k:Nat} {A:Around} (r:Room (k+1) A) (env:Env):Room k (A.deeper env):=
 ⟨r.hd,by have:=r.dp;show A.depth+1+3*k+5<_;omega,by have:=r.un;show A.units+3+16*k+200<_;omega⟩
theorem QV {A:Around} {C:Addr} {us:List Value} {kw:List (Str×Value)}:(A.under (.builtin "type.__call__" ⟨.ref C::us,kw⟩)).depth=A.depth+1:=by
 first | rfl | simp [Around.under,Code.weight,Code.isCreation,Code.isGuard,Code.isCaller,Code.frames,Code.isFrame,guardIds]
theorem QU {A:Around} {C:Addr} {us:List Value} {kw:List (Str×Value)}:(A.under (.builtin "type.__call__" ⟨.ref C::us,kw⟩)).units=A.units+1:=by
 first | rfl | simp [Around.under,Code.cUnits,Code.frames,Code.isFrame]
theorem Room.make {k:Nat} {A:Around} (r:Room (k+1) A) (C:Addr) (us:List Value) (kw:List (Str×Value)):Room k (A.under (.builtin "type.__call__" ⟨.ref C::us,kw⟩)):=
 ⟨r.hd,by have:=r.dp;rw [QV];omega,by have:=r.un;rw [QU];omega⟩
theorem Room.depth {k:Nat} {A:Around} (r:Room k A):A.depth<recursionLimit:=by have:=r.dp;omega
theorem Room.units {k:Nat} {A:Around} (r:Room k A):A.units+64<cLine:=by have:=r.un;omega
def qo:TA:=fun _ H Q=>Q [] H
def qd (ta:TE) (tr:TA):TA:=fun σ H Q=>ta σ H fun x H1=>tr σ H1 fun xs H2=>Q (x::xs) H2
section
variable {X:Cx} {e:Expr} {es:List Expr} {te:TE} {t:TA} {pos:Pos}
theorem qc:PA X [] qo:=fun _ _ _ _ H Q I h=>Calls.spliced_nil ⟨[],H,I,.nil,h⟩
theorem qb (ha:PE X e te) (hr:PA X es t) (hs:starEach (e::es) X.env=(false,eval e X.env)::starEach es X.env:=by rfl):PA X (e::es) (qd te t):=by
 intro pos pins s σ H Q I h;rw [hs];show wpAny _ _ (spliced ((false,eval e X.env)::backTo pos (starEach es X.env))) _ _ s;refine Calls.spliced_cons (thn (ha pins s σ H _ I h) fun u s1 ⟨x,H1,I1,r1,q1⟩=>?_);exact thn (hr pos pins s1 σ H1 _ I1 q1) fun us s2 ⟨xs,H2,I2,r2,q2⟩=>⟨x::xs,H2,I2,.cons r1 r2,q2⟩
def jl (t:TA):TE:=fun σ H Q=>t σ H fun xs H1=>xs.length≤sizeLine∧∀ p,H1 p=none→Q (.ref p) (upd H1 p (.tup xs))
def Jv (t:TA):TE:=fun σ H Q=>t σ H fun xs H1=>xs.length≤sizeLine∧∀ p,H1 p=none→Q (.ref p) (upd H1 p (.lst xs))
theorem qO {x1} (h:PA X es t):PE X (.Tuple es x1 pos) (jl t):=by
 intro pins s σ H Q I hq;refine wpAny_Tuple_spliced (thn (h pos pins s σ H _ I hq) fun us s1 ⟨xs,H1,I1,r,z,q⟩=>⟨by rw [← r.length];exact z,?_⟩)
 have hf:H1 s1.heap.objs.size=none:=I1.hok.fresh (Ah _);refine ⟨.ref s1.heap.objs.size,upd H1 s1.heap.objs.size (.tup xs),I1.laid (t':=s1.toks) (fun b u e=>Af _ e) (Ah _) ?_,rfl,q _ hf⟩;exact ⟨z,us,r,⟨_,Aw _ rfl,rfl,_,rfl⟩⟩
theorem zj (h:PA X es t):PE X (.List es pos) (Jv t):=by
 intro pins s σ H Q I hq;refine wpAny_List_spliced (thn (h pos pins s σ H _ I hq) fun us s1 ⟨xs,H1,I1,r,z,q⟩=>⟨by rw [← r.length];exact z,?_⟩)
 have hf:H1 s1.heap.objs.size=none:=I1.hok.fresh (Ah _);refine ⟨.ref s1.heap.objs.size,upd H1 s1.heap.objs.size (.lst xs),I1.laid (t':=s1.toks) (fun b u e=>Af _ e) (Ah _) ?_,rfl,q _ hf⟩;exact ⟨z,us,0,r,Aw _ rfl⟩
end
abbrev Sp:=List V→Hp→VK→XK→Prop
abbrev CXT:=List Env→Hp→Shared→XK→Value→Shared→Prop
structure Env0 (P:Program) (w:World) (K:Frag) (mg:Str→Option Value) (base:Heap) (A:Around) (outer:List Env) (s:Shared) (H:Hp):Prop where
 frames:A.frames=some outer
 mod:Mod K mg base
 bs:∀ b o,base.get? b=some o→s.heap.get? b=some o∧H b=none
 bsz:base.objs.size≤s.heap.objs.size
 funs:s.heap.FunFrames base outer
 frf:∀ b∈frs outer,H b=none
 hok:HOk P w H s.heap
 bare:AllBare s.gens
def CE (outer:List Env) (P:Program) (w:World) (H:Hp) (s:Shared) (Q:VK) (u:Value) (s':Shared):Prop:=
 ∃ v H',s'.os=s.os∧AllBare s'.gens∧Un (frs outer) [] H H' s.heap s'.heap∧HOk P w H' s'.heap∧qM v u∧Q v H'
def CR (CX:CXT) (outer:List Env) (P:Program) (w:World) (H:Hp) (s:Shared) (Q:VK) (E:XK) (r:Result) (s':Shared):Prop:=
 match r with
 | .ok (.ret u)=>CE outer P w H s Q u s'
 | .ok _=>False
 | .error e=>CX outer H s E e s'
structure FnOk (P:Program) (w:World) (K:Frag) (mg:Str→Option Value) (base:Heap) (CX:CXT) (k:Nat) (f:Addr) (fd:FuncData) (ps:List Str) (sp:Sp):Prop where
 len:∀ vs H Q E,sp vs H Q E→vs.length=ps.length
 run:∀ (A:Around) (outer:List Env) (s:Shared) (H:Hp) (args:Args) (us:List Value) (vs:List V) (Q:VK) (E:XK),Room k A→Env0 P w K mg base A outer s H→BindsTo s fd args (ps.zip us)→qP vs us→sp vs H Q E→
  codeAny (model P w) A (.call (.ref f) args) (CR CX outer P w H s Q E) s
theorem FnOk.mono {P:Program} {w:World} {K:Frag} {mg:Str→Option Value} {base:Heap} {CX:CXT} {j k:Nat} {f:Addr} {fd:FuncData} {ps:List Str} {sp:Sp} (F:FnOk P w K mg base CX j f fd ps sp) (h:j≤k):
  FnOk P w K mg base CX k f fd ps sp:=⟨F.len,fun A outer s H args us vs Q E hr=>F.run A outer s H args us vs Q E (hr.mono h)⟩
theorem Env0.make {P:Program} {w:World} {K:Frag} {mg:Str→Option Value} {base:Heap} {A:Around} {outer:List Env} {s:Shared} {H:Hp} (e:Env0 P w K mg base A outer s H) (C:Addr) (us:List Value) (kw:List (Str×Value)):
  Env0 P w K mg base (A.under (.builtin "type.__call__" ⟨.ref C::us,kw⟩)) outer s H:=⟨by first | exact e.frames | (simpa [Around.under,Code.envs,Code.isFrame,pushEnvs] using e.frames),e.mod,e.bs,e.bsz,e.funs,e.frf,e.hok,e.bare⟩
section
variable {X:Cx} {pins:List (Addr×Obj)} {σ:St} {H:Hp} {s s':Shared}
theorem Inv.env0 (I:Inv X pins σ H s):Env0 X.prog X.w X.K X.mg X.base X.A X.stack s H:=
 ⟨I.ok.frames,I.ok.mod,I.bs,Av I.ok.bsz I.sz,I.stack,I.stkFree,I.hok,I.bare⟩
theorem Inv.after {Q:VK} {u:Value} (I:Inv X pins σ H s) (h:CE X.stack X.prog X.w H s Q u s'):EP X pins σ Q u s':=by
 obtain ⟨v,H',os,bare,un,hok,r,q⟩:=h;obtain ⟨hh,g,d,t,os'⟩:=s';obtain rfl:os'=s.os:=os;exact ⟨v,H',I.call (h':=hh) (g':=g) (d':=d) (t':=t) (ch:=[]) un hok bare (fun b z=>absurd z (by simp)),r,q⟩
end
def qE (sp:Sp) (dvs:List V) (E:XK) (t:TA):TE:=fun σ H Q=>t σ H fun vs H1=>sp (vs++dvs) H1 Q E
def qhp (C:Addr) (m:Str) (sp:Sp) (dvs:List V) (E:XK) (ta:TE) (t:TA):TE:=fun σ H Q=>ta σ H fun x H1=>∃ a dx fs,x= .ref a∧H1 a=some (.ins C dx fs)∧fs.lookup m=none∧
 t σ H1 fun vs H2=>sp (x::(vs++dvs)) H2 Q E
def qhq (C:Addr) (sp:Sp) (dvs:List V) (E:XK) (t:TA):TE:=fun σ H Q=>t σ H fun vs H1=>∀ x dx,H1 x=none→H1 dx=none→dx≠x→
 sp (.ref x::(vs++dvs)) (upd (upd H1 dx (.own x)) x (.ins C dx [])) (fun v H2=>v= .non∧Q (.ref x) H2) E
def Jd (K:Frag) (fd:FuncData) (ps:List Str) (ds:List Value):Prop:=
 ∀ (s:Shared) (us:List Value),K.In s.heap→(us++ds).length=ps.length→BindsTo s fd ⟨us,[]⟩ (ps.zip (us++ds))
theorem Jd.all {K:Frag} {fd:FuncData} {ps:List Str} (h:∀ us:List Value,us.length=ps.length→bindArgs fd ⟨us,[]⟩=pure (ps.zip us)):Jd K fd ps []:=fun s us _ hl=>by
 rw [A6] at hl ⊢;exact .of_eq (h us hl)
def Jt (CX:CXT) (X:Cx) (E:XK):Prop:=∀ (pins:List (Addr×Obj)) (σ:St) (H:Hp) (s:Shared) (e:Value) (s':Shared),Inv X pins σ H s→CX X.stack H s E e s'→X.xe e s'
section
variable {X:Cx} {CX:CXT} {k:Nat} {f C:Addr} {fd:FuncData} {ps:List Str} {sp:Sp} {dvs:List V} {ds:List Value} {E:XK} {x m:Str} {p pos apos:Pos} {e o:Expr} {es:List Expr} {ta:TE} {t:TA}
theorem qec {pins:List (Addr×Obj)} {σ:St} {H:Hp} {s:Shared} {Q:VK} {us:List Value} {vs:List V} (F:FnOk X.prog X.w X.K X.mg X.base CX k f fd ps sp) (hr:Room k X.A) (hb:Jd X.K fd ps ds) (hd:qP dvs ds) (hx:Jt CX X E)
  (I:Inv X pins σ H s) (r:qP vs us) (h:sp (vs++dvs) H Q E):wpAny (model X.prog X.w) X.A (call (.ref f) us) (EP X pins σ Q) X.xe s:=by
 have r2:qP (vs++dvs) (us++ds):=r.append hd;have hl:(us++ds).length=ps.length:=by rw [← r2.length];exact F.len _ _ _ _ h
 refine Eh (El (F.run X.A X.stack s H ⟨us,[]⟩ (us++ds) (vs++dvs) Q E hr I.env0 (hb s us I.kIn hl) r2 h) fun r s' hq=>?_);cases r with
 | error e=>exact hx pins σ H s e s' I hq
 | ok fl=>
  cases fl with
  | ret u=>exact I.after hq
  | next=>exact False.elim hq
  | brk=>exact False.elim hq
  | cont=>exact False.elim hq
theorem Xr (F:FnOk X.prog X.w X.K X.mg X.base CX k f fd ps sp) (hr:Room k X.A) (hg:Gl X x) (hm:X.mg x=some (.ref f)) (hk:PySem.W.keepIn X.K (.ref f)=true) (hb:Jd X.K fd ps ds) (hd:qP dvs ds) (hx:Jt CX X E)
  (ha:PA X (e::es) t) (hdb:(x==("__debug__":Str))=false:=by decide) (he:starEach (e::es) X.env=(false,eval e X.env)::starEach es X.env:=by rfl) (hpl:(backTo pos (starEach es X.env)).any (·.1)=false:=by rfl):
  PE X (.Call (.Name x p) (e::es) [] pos) (qE sp dvs E t):=by
 intro pins s σ H Q I h;refine Eg (JD I hg hm ?_ hdb);refine PySem.W.callWith_K (h₀:=X.base) I.ok.mod.kin hk (thn (ha pos pins s σ H _ I h) fun us s1 ⟨vs,H1,I1,r,q⟩=>⟨I1.kIn,?_⟩) he hpl;exact qec F hr hb hd hx I1 r q
theorem qem {pl:Sem Bool} (he:PE X o ta) (c:Cls X.K C) (hm:Meth X.K C m f) (F:FnOk X.prog X.w X.K X.mg X.base CX k f fd ps sp) (hr:Room k X.A) (hb:Jd X.K fd ps ds) (hd:qP dvs ds) (hx:Jt CX X E)
  (ht:eval (.Call (.Attribute o m apos) [] [] pos) X.env=(do
   let ov ← eval o X.env
   standAt apos.atName
   let (f,first) ← holding [ov] (getMethod ov m pl)
   callWith pos f first (backTo pos (starEach [] X.env)) (backToKw pos (keywordEach [] X.env))):=by rfl):
  PE X (.Call (.Attribute o m apos) [] [] pos) (qhp C m sp dvs E ta qo):=by
 intro pins s σ H Q I h;refine PySem.W.methodCall_KW (pl:=pl) (thn (he pins s σ H _ I h) fun u s1 ⟨x,H1,I1,rx,a,dx,fs,ex,ea,l,q⟩=>?_) ht;subst ex;obtain rfl:u=Value.ref a:=rx;refine QY I1 ea c hm l ?_;exact PySem.W.callWith_K0 (first:=[.ref a]) I1.kIn hm.kp (qec (us:=[.ref a]) (vs:=[.ref a]) F hr hb hd hx I1 (.cons rfl .nil) q)
structure Mk (K:Frag) (C f:Addr):Prop where
 makes:PySem.W.makesIn K C=true
 init:PySem.W.findIn K (.ref C) "__init__"=some (some (.ref f))
 fn:PySem.W.isFn K (.ref f)=true
 kp:PySem.W.keepIn K (.ref C)=true
theorem qeb {pins:List (Addr×Obj)} {σ:St} {H:Hp} {s:Shared} {Q:VK} {us:List Value} {vs:List V} (M:Mk X.K C f) (F:FnOk X.prog X.w X.K X.mg X.base CX k f fd ps sp) (hr:Room (k+1) X.A) (hb:Jd X.K fd ps ds) (hd:qP dvs ds)
  (hx:Jt CX X E) (I:Inv X pins σ H s) (r:qP vs us)
  (h:∀ x dx,H x=none→H dx=none→dx≠x→sp (.ref x::(vs++dvs)) (upd (upd H dx (.own x)) x (.ins C dx [])) (fun v H2=>v= .non∧Q (.ref x) H2) E):
  wpAny (model X.prog X.w) X.A (call (.ref C) us) (EP X pins σ Q) X.xe s:=by
 have hq:=h (s.heap.objs.size+1) s.heap.objs.size (I.hok.fresh (Ds _)) (I.hok.fresh (Ah _)) (A8 (Er _));have I2:=Inv.made (C:=C) I;have r2:qP (V.ref (s.heap.objs.size+1)::(vs++dvs)) (Value.ref (s.heap.objs.size+1)::(us++ds)):= .cons rfl (r.append hd);have hl:(Value.ref (s.heap.objs.size+1)::us++ds).length=ps.length:=by
  have e:=r2.length;rw [F.len _ _ _ _ hq] at e;exact e.symm
 refine Eh (qew (f:=f) I.kIn M.makes M.init (Ax.mp M.fn) (El (F.run _ X.stack _ _ ⟨Value.ref (s.heap.objs.size+1)::us,[]⟩ (Value.ref (s.heap.objs.size+1)::(us++ds)) _ _ E (hr.make C us [])
  (I2.env0.make C us []) (hb _ (Value.ref (s.heap.objs.size+1)::us) I2.kIn hl) r2 hq) fun r s' hq'=>?_))
 cases r with
 | error e=>exact hx pins σ _ _ e s' I2 hq'
 | ok fl=>
  cases fl with
  | ret u=>
   obtain ⟨v,H',I3,rv,ev,q3⟩:=I2.after hq';subst ev;exact ⟨rv,⟨V.ref (s.heap.objs.size+1),H',I3,rfl,q3⟩⟩
  | next=>exact False.elim hq'
  | brk=>exact False.elim hq'
  | cont=>exact False.elim hq'
theorem qgu (M:Mk X.K C f) (F:FnOk X.prog X.w X.K X.mg X.base CX k f fd ps sp) (hr:Room (k+1) X.A) (hg:Gl X x) (hm:X.mg x=some (.ref C)) (hb:Jd X.K fd ps ds) (hd:qP dvs ds) (hx:Jt CX X E)
  (ha:PA X (e::es) t) (hdb:(x==("__debug__":Str))=false:=by decide) (he:starEach (e::es) X.env=(false,eval e X.env)::starEach es X.env:=by rfl) (hpl:(backTo pos (starEach es X.env)).any (·.1)=false:=by rfl):
  PE X (.Call (.Name x p) (e::es) [] pos) (qhq C sp dvs E t):=by
 intro pins s σ H Q I h;refine Eg (JD I hg hm ?_ hdb);refine PySem.W.callWith_K (h₀:=X.base) I.ok.mod.kin M.kp (thn (ha pos pins s σ H _ I h) fun us s1 ⟨vs,H1,I1,r,q⟩=>⟨I1.kIn,?_⟩) he hpl;exact qeb M F hr hb hd hx I1 r q
end
section
variable {X:Cx} {CX:CXT} {k:Nat} {f C:Addr} {fd:FuncData} {ps ks:List Str} {sp:Sp} {E:XK} {x m:Str} {p pos apos kpos:Pos} {e o:Expr} {es:List Expr} {kws:List Keyword} {te ta:TE} {t tk:TA} {nm:Option Str}
variable {g:List Value→List Value→List Value} {gV:List V→List V→List V}
end
structure FnScope (N P:List Str) (sc:Scope):Prop where
 kind:sc.kind= .function
 co:sc.isCoroutine=false
 gen:sc.isGenerator=false
 nd:N.Nodup
 pre:N.take P.length=P
 par:∀ x∈P,sc.names.lookup x=some .local∨sc.names.lookup x=some .cell
 nofree:∀ y∈sc.names,y.2≠ .free
theorem Y8 {kindOf:Str→Option NameKind} {x:Str}:∀ {binds:List (Str×Value)} {m:Str→Option Value},(∀ v,(x,v)∉binds)→bindL kindOf binds m x=m x
 | [],_,_=>rfl
 | (n,v)::r,m,h=>by
  unfold bindL;rw [Y8 fun w hw=>h w (Am _ hw)];split
  ·have:x≠n:=by rintro rfl;exact h v Au
   simp [this]
  ·rfl
theorem Xa {kindOf:Str→Option NameKind} {x:Str}:∀ {binds:List (Str×Value)} {m:Str→Option Value},(∀ v,(x,v)∉binds)→bindC kindOf binds m x=m x
 | [],_,_=>rfl
 | (n,v)::r,m,h=>by
  unfold bindC;rw [Xa fun w hw=>h w (Am _ hw)];split
  ·rfl
  ·have:x≠n:=by rintro rfl;exact h v Au
   simp [this]
theorem Y9 {kindOf:Str→Option NameKind} {x:Str} {v:Value}:∀ {P:List Str} {vs:List Value} {i:Nat} {m:Str→Option Value},P.Nodup→P[i]?=some x→vs[i]?=some v→kindOf x=some .local→
  bindL kindOf (P.zip vs) m x=some v
 | [],_,_,_,_,h,_,_=>by simp at h
 | _::_,[],_,_,_,_,h,_=>by simp at h
 | p::P,w::vs,0,m,nd,h1,h2,hk=>by
  simp at h1 h2;subst h1;subst h2;show bindL kindOf ((p,w)::P.zip vs) m p=_;unfold bindL;rw [Y8 fun v hv=>(Db.mp nd).1 (Dj hv).1,if_pos hk];simp
 | p::P,w::vs,i+1,m,nd,h1,h2,hk=>by
  show bindL kindOf ((p,w)::P.zip vs) m x=_;unfold bindL;exact Y9 (i:=i) (Db.mp nd).2 (by simpa using h1) (by simpa using h2) hk
theorem Xb {kindOf:Str→Option NameKind} {x:Str} {v:Value}:∀ {P:List Str} {vs:List Value} {i:Nat} {m:Str→Option Value},P.Nodup→P[i]?=some x→vs[i]?=some v→kindOf x≠some .local→
  bindC kindOf (P.zip vs) m x=some v
 | [],_,_,_,_,h,_,_=>by simp at h
 | _::_,[],_,_,_,_,h,_=>by simp at h
 | p::P,w::vs,0,m,nd,h1,h2,hk=>by
  simp at h1 h2;subst h1;subst h2;show bindC kindOf ((p,w)::P.zip vs) m p=_;unfold bindC;rw [Xa fun v hv=>(Db.mp nd).1 (Dj hv).1,if_neg hk];simp
 | p::P,w::vs,i+1,m,nd,h1,h2,hk=>by
  show bindC kindOf ((p,w)::P.zip vs) m x=_;unfold bindC;exact Xb (i:=i) (Db.mp nd).2 (by simpa using h1) (by simpa using h2) hk
def Jb (N:List Str) (vs:List V):St:=vs.map some++List.replicate (N.length - vs.length) none
def j4 (CX:CXT) (P:Program) (w:World) (K:Frag) (mg:Str→Option Value) (base:Heap) (N:List Str) (qual:Str) (scope:Scope) (f:Addr) (cd:Value) (A:Around) (outer:List Env) (s:Shared) (H:Hp) (E:XK):Cx where
 prog:=P
 w:=w
 K:=K
 mg:=mg
 base:=base
 A:=A.deeper (envOfC qual scope s.heap.objs.size f cd)
 N:=N
 s₀:=s
 H₀:=H
 env:=envOfC qual scope s.heap.objs.size f cd
 outer:=outer
 stack:=envOfC qual scope s.heap.objs.size f cd::outer
 ex:=[]
 calm:=true
 fn:=fun _=>true
 pn:=[]
 xe:=fun e s'=>wpAny (model P w) (A.deeper (envOfC qual scope s.heap.objs.size f cd)) (leaving (envOfC qual scope s.heap.objs.size f cd) e) (fun _ s''=>CX outer H s E e s'') (fun e' s''=>CX outer H s E e' s'') s'
theorem Qd {sc:Scope} {n:Nat} {x:Str} (h:sc.names.lookup x=some .cell):∃ c,(cellsFrom n sc.names []).lookup x=some c:=by
 have q:=PySem.W.cellsFrom_some sc.names n [] (.inl h);exact D9.mp q
theorem YW {CX:CXT} {P:Program} {w:World} {K:Frag} {mg:Str→Option Value} {base:Heap} {N ps:List Str} {qual:Str} {scope:Scope} {f:Addr} {cd:Value} {A:Around} {outer:List Env} {s s1:Shared} {H:Hp} {E:XK} {us:List Value} {vs:List V}
  (S:FnScope N ps scope) (hd:A.handled=none) (e0:Env0 P w K mg base A outer s H) (hl:vs.length=ps.length) (r:qP vs us)
  (x:InCallC s s.heap.objs.size (bindL (envOfC qual scope s.heap.objs.size f cd).kindOf (ps.zip us) fun _=>none) (cellsFrom (s.heap.objs.size+1) scope.names []) (bindC (envOfC qual scope s.heap.objs.size f cd).kindOf (ps.zip us) fun _=>none) s1):
  Inv (j4 CX P w K mg base N qual scope f cd A outer s H E) [] (Jb N vs) H s1:=by
 have hpl:ps.length≤N.length:=by have:=congrArg List.length S.pre;rw [Cr] at this;omega
 obtain ⟨h1,tk,rfl,hk⟩:=x.done;have noA:∀ b:Addr,b∉(j4 CX P w K mg base N qual scope f cd A outer s H E).ex:=fun b z=>absurd (show b∈([]:List Addr) from z) (by simp)
 refine ⟨⟨e0.mod,S.kind,rfl,rfl,Ah _,fun y z c h1 h2=>?_,fun y hy=>?_,fun y c _ h=>?_,fun _=>hd,Around.frames_deeper e0.frames,.inr ⟨rfl,rfl⟩,fun b z=>absurd z (noA b),e0.bs,e0.bsz,fun b _ _=>noA b,fun b z=>absurd z (noA b),e0.funs,e0.frf⟩,
  rfl,e0.bare,Un.kept hk,⟨_,x.toInCall.ns,fun i y v h1 h2 h3=>?_⟩,fun y c h=>⟨_,x.cell y c h⟩,e0.hok.fresh (Ah _),fun y c h=>?_,fun p hp=>absurd (show p∈([]:List (Addr×Obj)) from hp) (by simp),e0.hok.kept hk,?_⟩
 ·exact name_of_addr x.apart (Bk h1) (Bk h2)
 ·have hy:scope.names.lookup y=some .cell∨scope.names.lookup y=some .free:=hy;rcases hy with hy | hy
  ·exact Qd hy
  ·exact absurd rfl (S.nofree _ (Bk hy))
 ·exact Nat.le_of_lt (x.above y c (Bk h))
 ·have hi:i<vs.length:=by
   unfold Jb at h2
   by_cases hi:i<vs.length
   ·exact hi
   ·rw [Cw (by simpa using hi)] at h2
    rw [List.getElem?_replicate] at h2;split at h2 <;> cases h2
  have ha:vs[i]?=some v:=by
   unfold Jb at h2;rw [D5 (by simpa using hi),A0] at h2
   cases e:vs[i]? with
   | none=>rw [e] at h2;cases h2
   | some a=>rw [e] at h2;cases h2;rfl
  obtain ⟨u,hu,rv⟩:=r.get ha;have hp:ps[i]?=some y:=by
   rw [← S.pre,List.getElem?_take_of_lt ⋯];exact h1
  have ndP:ps.Nodup:=by rw [← S.pre];exact S.nd.sublist (List.take_sublist _ _)
  refine ⟨u,rv,?_⟩;rcases S.par y (A9 hp) with k | k
  ·exact .inl ⟨k,Y9 ndP hp hu k⟩
  ·obtain ⟨c,e⟩:=Qd (n:=s.heap.objs.size+1) k;refine .inr ⟨.inl k,c,e,?_⟩;have q:=x.cell y c e;rw [Xb ndP hp hu (by show scope.names.lookup y≠_;rw [k];decide)] at q
   exact q
 ·exact e0.hok.fresh (Nat.le_of_lt (x.above y c (Bk h)))
 ·unfold Jb;show _=N.length;rw [Ac,Ab,List.length_replicate];omega
theorem qfc {CX:CXT} {P:Program} {w:World} {K:Frag} {mg:Str→Option Value} {base:Heap} {k:Nat} {f:Addr} {name qual:Str} {params:Arguments} {body:List Stmt} {scope:Scope} {dV kV doc pm cdv ct oc:Value} {an od:Option Addr}
  {osl:Array (Option Value)} {N ps:List Str} {sp:Sp} (lk:K.lookup f=some ⟨oc,od,.func (PySem.W.fnOf name qual params body scope dV kV doc pm an cdv ct),osl⟩) (hcd:PySem.W.codeIn K cdv qual=true) (S:FnScope N ps scope)
  (len:∀ vs H Q E,sp vs H Q E→vs.length=ps.length)
  (hbody:∀ (A:Around) (outer:List Env) (s:Shared) (H:Hp) (vs:List V) (Q:VK) (E:XK),Room k (A.deeper (envOfC qual scope s.heap.objs.size f cdv))→sp vs H Q E→
   ∃ t,PSs (j4 CX P w K mg base N qual scope f cdv A outer s H E) body t∧t {nx:=fun _ H'=>Q .non H',rt:=Q} (Jb N vs) H):
  FnOk P w K mg base CX (k+1) f (PySem.W.fnOf name qual params body scope dV kV doc pm an cdv ct) ps sp:=by
 refine ⟨len,fun A outer s H args us vs Q E hr e0 hb r hsp=>?_⟩;have hl:=len _ _ _ _ hsp;have KX:K.In s.heap:=e0.mod.kin.keeps fun b o e=>(e0.bs b o e).1;have lim:s.heap.NoLimit:=e0.mod.nolimit.keeps fun b o e=>(e0.bs b o e).1;have hkind:∀ y∈ps.zip us,scope.names.lookup y.1=some .local∨(scope.names.lookup y.1=some .cell∧((cellsFrom (s.heap.objs.size+1) scope.names []).lookup y.1).isSome=true):=fun ⟨n,v⟩ hy=>by
  rcases S.par n (Dj hy).1 with q | q
  ·exact .inl q
  ·exact .inr ⟨q,PySem.W.cellsFrom_some _ _ _ (.inl q)⟩
 refine codeAny_call_function hr.depth (KX _ _ lk) rfl S.co S.gen rfl (PySem.W.codeRec_of KX hcd) (hb _ _ _ _ ?_);refine wpAny_newFunctionEnv_cells S.kind hkind fun env he s1 x=>?_;subst he;refine ⟨lim.keeps x.toInCall.keep,codeAny_func ?_⟩;obtain ⟨t,ht,hq⟩:=hbody A outer s H vs Q E (hr.deeper _) hsp;have I:Inv (j4 CX P w K mg base N qual scope f cdv A outer s H E) [] (Jb N vs) H s1:=YW S hr.hd e0 hl r x;refine Bq (ht [] s1 (Jb N vs) H _ I hq) (fun fl s' hs=>?_) fun e s' hs=>hs;have fin:∀ {σ':St} {H':Hp} {v:V} {u:Value},Inv (j4 CX P w K mg base N qual scope f cdv A outer s H E) [] σ' H' s'→qM v u→Q v H'→CE outer P w H s Q u s':=
  fun {σ' H' v u} J rv q=>⟨v,H',J.os,J.bare,J.base,J.hok,rv,q⟩
 cases fl with
 | ret u=>
  obtain ⟨v,σ',H',J,rv,q⟩:=hs;exact fin J rv q
 | next=>
  obtain ⟨σ',H',J,q⟩:=hs;exact fin (v:=V.non) (u:=Value.none) J rfl q
 | brk=>
  obtain ⟨_,_,_,q⟩:=hs;exact False.elim q
 | cont=>
  obtain ⟨_,_,_,q⟩:=hs;exact False.elim q
section
variable {X:Cx} {x:Str} {p pos:Pos} {e:Expr} {es:List Expr} {t:TA} {id T:String} {r:List V→Hp→VK→Prop}
def tCB (r:List V→Hp→VK→Prop) (t:TA):TE:=fun σ H Q=>t σ H fun vs H1=>r vs H1 Q
theorem qz (hc:jK X (.builtin id) r) (hg:Gl X x) (hm:X.mg x=none) (hv:bootBuiltins x=some (.builtin id)) (ha:PA X (e::es) t) (hn:x≠"__name__":=by decide) (hdb:(x==("__debug__":Str))=false:=by decide)
  (he:starEach (e::es) X.env=(false,eval e X.env)::starEach es X.env:=by rfl) (hpl:(backTo pos (starEach es X.env)).any (·.1)=false:=by rfl):PE X (.Call (.Name x p) (e::es) [] pos) (tCB r t):=by
 intro pins s σ H Q I h;refine Eg (JL I hg hm hv ?_ hn hdb);exact PyProof.Rows.callWith_builtin1 (thn (ha pos pins s σ H _ I h) fun us s1 ⟨vs,H1,I1,r1,q1⟩=>hc pins s1 σ H1 vs us Q I1 r1 q1) he hpl
theorem zk (hc:jK X (.type T) r) (hg:Gl X x) (hm:X.mg x=none) (hv:bootBuiltins x=some (.type T)) (ha:PA X (e::es) t) (hn:x≠"__name__":=by decide) (hdb:(x==("__debug__":Str))=false:=by decide)
  (he:starEach (e::es) X.env=(false,eval e X.env)::starEach es X.env:=by rfl) (hpl:(backTo pos (starEach es X.env)).any (·.1)=false:=by rfl):PE X (.Call (.Name x p) (e::es) [] pos) (tCB r t):=by
 intro pins s σ H Q I h;refine Eg (JL I hg hm hv ?_ hn hdb);exact B8 (thn (ha pos pins s σ H _ I h) fun us s1 ⟨vs,H1,I1,r1,q1⟩=>hc pins s1 σ H1 vs us Q I1 r1 q1) he hpl
end
end L2
namespace HT
open PySem PyProof.Rows
section
open PySem.SeqAt
open PySem.AutoSeq1 (wpAny_loadPart')
open PySem.MeetsSeq PySem.MeetsSeq2 PySem.MeetsSeq3
end
section
variable {prog:Program} {w:World} {A:Around} {E:Value→Shared→Prop} {s:Shared}
def sIx (n d:Nat):Option Int→Nat
 | none=>d
 | some v=>if v<0 then (v+(n:Int)).toNat else min v.toNat n
theorem sIx_none (n d:Nat):sIx n d none=d:=rfl
theorem sIx_nat (n d k:Nat):sIx n d (some (k:Int))=min k n:=by
 show (if (k:Int)<0 then ((k:Int)+(n:Int)).toNat else min (k:Int).toNat n)=min k n
 rw [if_neg ⋯,Int.toNat_natCast]
theorem qid (n d:Nat) (hd:d≤n) (o:Option Int):sIx n d o≤n:=by
 cases o with
 | none=>exact hd
 | some v=>
  show (if v<0 then (v+(n:Int)).toNat else min v.toNat n)≤n
  by_cases hv:v<0
  ·rw [if_pos hv];omega
  ·rw [if_neg hv];exact Nat.min_le_right _ _
theorem qbh (v:Int) (n d:Nat):(if v<0 then max (v+(n:Int)) 0 else min v (n:Int))=((sIx n d (some v):Nat):Int):=by
 show (if v<0 then max (v+(n:Int)) 0 else min v (n:Int))=(((if v<0 then (v+(n:Int)).toNat else min v.toNat n):Nat):Int)
 by_cases hv:v<0
 ·simp only [if_pos hv];omega
 ·simp only [if_neg hv];omega
theorem Q6 (lo hi:Option Int) (n:Nat):Builtin.Slice.sliceAdjust lo hi 1 (n:Int)=(((sIx n 0 lo:Nat):Int),((sIx n n hi:Nat):Int)):=by
 have h1:¬ ((1:Int)<0):=⋯;unfold Builtin.Slice.sliceAdjust;simp only [h1,if_false];refine Prod.ext ?_ ?_
 ·cases lo with
  | none=>rfl
  | some v=>exact qbh v n 0
 ·cases hi with
  | none=>rfl
  | some v=>exact qbh v n n
theorem QJ (i j:Nat):Builtin.Slice.slicePlaces (i:Int) (j:Int) 1=j - i:=by
 unfold Builtin.Slice.slicePlaces;have h1:(1:Int)>0:=⋯;simp only [h1,if_true,Int.ediv_one];split <;> omega
theorem W2 {v:Value} {o:Option Int} {Q:Option Int→Shared→Prop} (p:IsPart v o) (h:Q o s):wpAny (model prog w) A (Builtin.Slice.slicePartIndex v) Q E s:=by
 cases p with
 | none=>exact slicePart_none h
 | int i t=>exact slicePart_int h
theorem wb {sl:Addr} {vl vu:Value} {lo hi:Option Int} {n:Nat} {Q:Int×Int×Nat→Shared→Prop} (hs:s.heap.IsSliceOf sl vl vu .none) (pl:IsPart vl lo) (pu:IsPart vu hi)
  (h:Q (((sIx n 0 lo:Nat):Int),1,sIx n n hi - sIx n 0 lo) s):wpAny (model prog w) A (Builtin.Slice.sliceApplied (.ref sl) (pure (n:Int))) Q E s:=by
 obtain ⟨os,hos,hcs,hds⟩:=id hs;unfold Builtin.Slice.sliceApplied Builtin.Slice.sliceFields;refine Aa (Aa (Bs hos hds (x:=vl) rfl (Aa (Bs hos hds (x:=vu) rfl (Aa (Bs hos hds (x:= .none) rfl (Ai ?_)))))));refine Aa (slicePart_none ?_);show wpAny _ _ (if ((1:Int)==0)=true then _ else _) _ _ s
 rw [if_neg O0];refine Aa (W2 pl (Aa (W2 pu (Aa (Ai ?_)))));show wpAny _ _ (match Builtin.Slice.sliceAdjust lo hi 1 (n:Int) with | (lo,hi)=>pure (lo,(1:Int),Builtin.Slice.slicePlaces lo hi 1)) _ _ s
 rw [Q6 lo hi n];show wpAny _ _ (pure (((sIx n 0 lo:Nat):Int),(1:Int),Builtin.Slice.slicePlaces ((sIx n 0 lo:Nat):Int) ((sIx n n hi:Nat):Int) 1)) _ _ s;rw [QJ];exact Ai h
theorem qek (xs:Array Value) (i k:Nat):((List.range k).filterMap fun (m:Nat)=>xs[((i:Int)+(m:Int)*1).toNat]?).toArray=((xs.toList.drop i).take k).toArray:=by
 have e:(fun (m:Nat)=>xs[((i:Int)+(m:Int)*1).toNat]?)=fun m=>xs[i+m]?:=by
  funext m;have:((i:Int)+(m:Int)*1).toNat=i+m:=⋯;rw [this]
 rw [e];have:=pick_run xs i k;rw [List.filterMap_map] at this;have e2:((fun x=>xs[x]?) ∘ fun x=>i+x)=fun m=>xs[i+m]?:=rfl;rw [e2] at this;rw [this]
theorem getItem_tuple_cut {t sl:Addr} {qr:Array Value} {vl vu:Value} {lo hi:Option Int} {Q:Value→Shared→Prop} (ht:IsTup s.heap t qr) (hs:s.heap.IsSliceOf sl vl vu .none) (pl:IsPart vl lo) (pu:IsPart vu hi)
  (hw:¬ (sIx qr.size 0 lo=0∧sIx qr.size qr.size hi=qr.size))
  (h:Q (.ref s.heap.objs.size) {s with heap:=s.heap.push {cls:= .type "tuple",data:= .seq ((qr.toList.drop (sIx qr.size 0 lo)).take (sIx qr.size qr.size hi - sIx qr.size 0 lo)).toArray}})
  (hsz:qr.size≤sizeLine):wpAny (model prog w) A (getItem (.ref t) (.ref sl)) Q E s:=by
 have htake:sizeOk (.seq ((qr.toList.drop (sIx qr.size 0 lo)).take (sIx qr.size qr.size hi - sIx qr.size 0 lo)).toArray):=by
  show ((qr.toList.drop (sIx qr.size 0 lo)).take (sIx qr.size qr.size hi - sIx qr.size 0 lo)).toArray.size≤sizeLine;rw [Ar,Cr,List.length_drop,Dp];omega
 have hj:sIx qr.size qr.size hi≤qr.size:=qid _ _ (Ah _) hi;obtain ⟨os,hos,hcs,hds⟩:=id hs;have hTs:s.TypeIs (.ref sl) "slice":=⟨os,hos,hcs⟩;unfold getItem
 try with_reducible refine B5 ?_
 first | refine Aa (Ai ?_) | skip
 refine Aa (wpAny_sequenceKey ht.typeIs O0 ?_);refine Aa (Cq (name:=Str.ofString "__getitem__") ht.typeIs PyProof.Rows.slot_tuple_getitem
  (Ck PyProof.Rows.slot_tuple_getitem ht.typeIs entry_tuple_getitem ?_ (args_tuple_getitem _ _)))
 show wpAny _ _ (Builtin.Tuple.tupleItemsOf (.ref t)>>=_) _ _ s;refine Aa (tupleItemsOf_ ht ?_);refine Aa (wpAny_typeOf hTs ?_);rw [if_pos O0];refine Aa (wb hs pl pu ?_);have hno:¬ ((((sIx qr.size 0 lo:Nat):Int)==0&&(1:Int)==1&&(sIx qr.size qr.size hi - sIx qr.size 0 lo)==qr.size)=true):=by
  intro q;rw [Ae,Ae] at q;have q1:((sIx qr.size 0 lo:Nat):Int)=0:=eq_of_beq q.1.1;have q2:sIx qr.size qr.size hi - sIx qr.size 0 lo=qr.size:=eq_of_beq q.2;exact hw ⟨⋯,⋯⟩
 show wpAny _ _ (if (((sIx qr.size 0 lo:Nat):Int)==0&&(1:Int)==1&&(sIx qr.size qr.size hi - sIx qr.size 0 lo)==qr.size)=true then _ else _) _ _ s
 rw [if_neg hno,qek]
 first
  | exact Aa (m:=Builtin.Tuple.tupleExact _) (Cj (Ai ⟨_,rfl,Ai h⟩) htake)
  | exact Aa (m:=Builtin.Tuple.tupleExact _) (Cj (Aa (Ai (Ai ⟨_,rfl,Ai h⟩))) htake)
  | exact Aa (Aa (m:=Builtin.Tuple.tupleExact _) (Cj (Ai (Ai ⟨_,rfl,Ai h⟩)) htake))
  | exact Aa (Aa (m:=Builtin.Tuple.tupleExact _) (Cj (Ai ⟨_,rfl,Ai h⟩) htake))
end
end HT
namespace L2
open PySem PySem.Spec PyProof.Rows
abbrev TO:=St→Hp→(Option Int→Hp→Prop)→Prop
def PO (X:Cx) (e:Option Expr) (t:TO):Prop:=
 ∀ (pins:List (Addr×Obj)) (s:Shared) (σ:St) (H:Hp) (Q:Option Int→Hp→Prop),Inv X pins σ H s→t σ H Q→
  wpAny (model X.prog X.w) X.A (evalPart e X.env) (fun u s'=>∃ o H',Inv X pins σ H' s'∧IsPart u o∧Q o H') X.xe s
def VN:TO:=fun _ H Q=>Q none H
def W0 (t:TE):TO:=fun σ H Q=>t σ H fun x H1=>∃ i,x= .int i∧Q (some i) H1
section
variable {X:Cx} {e:Expr} {te:TE} {lo hi:Option Expr} {tl th:TO} {pos p2:Pos}
theorem J5:PO X none VN:=by
 intro pins s σ H Q I h;rw [evalPart_none];exact Ai ⟨none,H,I,.none,h⟩
theorem Jg (h:PE X e te):PO X (some e) (W0 te):=by
 intro pins s σ H Q I hw;rw [evalPart_some];refine thn (h pins s σ H _ I hw) fun u s1 ⟨x,H1,I1,r1,q1⟩=>?_;obtain ⟨i,rfl,q⟩:=q1;obtain ⟨t,rfl⟩:=r1;exact ⟨some i,H1,I1,.int i t,q⟩
def SlR (X:Cx) (r:V→Option Int→Option Int→Hp→VK→Prop):Prop:=
 ∀ (pins:List (Addr×Obj)) (s:Shared) (σ:St) (H:Hp) (x:V) (v vl vu:Value) (lo hi:Option Int) (sl:Addr) (Q:VK),Inv X pins σ H s→qM x v→s.heap.IsSliceOf sl vl vu .none→IsPart vl lo→IsPart vu hi→r x lo hi H Q→
  ∃ T id,typeLookup (.type T) "__getitem__"=pure (some (.builtin id))∧s.TypeIs v T∧wpAny (model X.prog X.w) X.A (getItem v (.ref sl)) (EP X pins σ Q) X.xe s
theorem SlR.or {r r':V→Option Int→Option Int→Hp→VK→Prop} (h:SlR X r) (h':SlR X r'):SlR X (fun x lo hi H Q=>r x lo hi H Q∨r' x lo hi H Q):=by
 intro pins s σ H x v vl vu lo hi sl Q I rx hs pl pu q;rcases q with q | q
 ·exact h pins s σ H x v vl vu lo hi sl Q I rx hs pl pu q
 ·exact h' pins s σ H x v vl vu lo hi sl Q I rx hs pl pu q
def tSl (r:V→Option Int→Option Int→Hp→VK→Prop) (te:TE) (tl th:TO):TE:=fun σ H Q=>te σ H fun x H1=>tl σ H1 fun l H2=>th σ H2 fun u H3=>r x l u H3 Q
theorem jY {r:V→Option Int→Option Int→Hp→VK→Prop} (hr:SlR X r) (he:PE X e te) (hl:PO X lo tl) (hu:PO X hi th):PE X (.Subscript e (.Slice lo hi none p2) pos) (tSl r te tl th):=by
 intro pins s σ H Q I h;refine Subscript_ (thn (he pins s σ H _ I h) fun v s1 ⟨x,H1,I1,r1,q1⟩=>?_);refine wpAny_Slice (thn (hl pins s1 σ H1 _ I1 q1) fun vl s2 ⟨l,H2,I2,pl,q2⟩=>thn (hu pins s2 σ H2 _ I2 q2) fun vu s3 ⟨u,H3,I3,pu,q3⟩=>?_);rw [evalPart_none];refine Ai ?_;have I4:Inv X pins σ H3 {s3 with heap:=s3.heap.push {cls:= .type "slice",data:= .fields #[vl,vu,.none]}}:=I3.kept (t':=s3.toks) fun b ob q=>Af _ q
 obtain ⟨T,id,hT,ht,hg⟩:=hr pins {s3 with heap:=s3.heap.push {cls:= .type "slice",data:= .fields #[vl,vu,.none]}} σ H3 x v vl vu l u s3.heap.objs.size Q I4 r1 (Heap.IsSliceOf.new ..) pl pu q3
 show wpAny (model X.prog X.w) X.A (subscriptTail e (.Slice lo hi none p2) v (.ref s3.heap.objs.size)) (EP X pins σ Q) X.xe {s3 with heap:=s3.heap.push {cls:= .type "slice",data:= .fields #[vl,vu,.none]}}
 exact tail_any (ops:=[.ref s3.heap.objs.size,v]) ht hT hg (by with_unfolding_all rfl)
def v7 (xs:List V) (lo hi:Option Int):List V:=(xs.drop (HT.sIx xs.length 0 lo)).take (HT.sIx xs.length xs.length hi - HT.sIx xs.length 0 lo)
theorem Wj (xs:List V) (lo hi:Option Int):(v7 xs lo hi).length≤xs.length:=by
 unfold v7;rw [Cr,List.length_drop];omega
def qkf (K:Frag):V→Option Int→Option Int→Hp→VK→Prop:=fun x lo hi H Q=>∃ a xs,x= .ref a∧SqT K H a xs∧
 ¬ (HT.sIx xs.length 0 lo=0∧HT.sIx xs.length xs.length hi=xs.length)∧∀ p,H p=none→Q (.ref p) (upd H p (.tup (v7 xs lo hi)))
theorem qh9:SlR X (qkf X.K):=by
 intro pins s σ H x v vl vu lo hi sl Q I rx hs pl pu h;obtain ⟨a,xs,rfl,hx,hw,q⟩:=h;cases rx;obtain ⟨its,r,ht,hz⟩:=I.tuple hx;have hlen:its.toArray.size=xs.length:=by rw [Ar];exact r.length.symm
 refine ⟨"tuple",_,PyProof.Rows.slot_tuple_getitem.lookup,ht.typeIs,?_⟩;refine HT.getItem_tuple_cut ht hs pl pu (by rw [hlen];exact hw) ?_ (by rw [hlen];exact hz)
 rw [hlen];refine ⟨.ref s.heap.objs.size,_,I.laid (t':=s.toks) (o:= .tup (v7 xs lo hi)) (fun b ob q=>Af _ q) (Ah _) ?_,rfl,q _ (I.hok.fresh (Ah _))⟩;exact ⟨Av (Wj xs lo hi) hz,_,(r.drop (HT.sIx xs.length 0 lo)).take (HT.sIx xs.length xs.length hi - HT.sIx xs.length 0 lo),IsTup.new _ _⟩
end
def ixN (n:Nat) (i:Int):Option Nat:=if 0≤i then (if i<n then some i.toNat else none) else if -(n:Int)≤i then some (i+n).toNat else none
def atI {α:Type} (xs:List α) (i:Int):Option α:=(ixN xs.length i).bind fun j=>xs[j]?
theorem qa4 {n:Nat} {i:Int} {j:Nat} (h:ixN n i=some j):seqIndex? i n=some j∧j<n∧ -(n:Int)≤i∧i<n:=by
 unfold ixN at h
 by_cases h0:0≤i
 ·rw [if_pos h0] at h
  by_cases h1:i<n
  ·rw [if_pos h1] at h;have e:i.toNat=j:=Be h;exact ⟨by rw [seqIndex_of h0 h1,e],⋯,⋯,h1⟩
  ·rw [if_neg h1] at h;cases h
 ·rw [if_neg h0] at h
  by_cases h1: -(n:Int)≤i
  ·rw [if_pos h1] at h;have e:(i+n).toNat=j:=Be h;exact ⟨by rw [seqIndex_neg ⋯ h1,e],⋯,h1,⋯⟩
  ·rw [if_neg h1] at h;cases h
theorem X2 {α:Type} {xs:List α} {i:Int} {v:α} (h:atI xs i=some v):∃ j,seqIndex? i xs.length=some j∧xs[j]?=some v∧j<xs.length∧ -(xs.length:Int)≤i∧i<xs.length:=by
 unfold atI at h;cases e:ixN xs.length i with
 | none=>rw [e] at h;cases h
 | some j=>
  rw [e] at h;obtain ⟨h1,h2,h3,h4⟩:=qa4 e;exact ⟨j,h1,h,h2,h3,h4⟩
theorem qk {α:Type} {xs:List α} {j:Nat} {v:α} (h:xs[j]?=some v):atI xs (j:Int)=some v:=by
 have hj:j<xs.length:=(B2.mp h).1;have e:ixN xs.length (j:Int)=some j:=by
  unfold ixN;rw [if_pos ⋯,if_pos ⋯];simp
 unfold atI;rw [e];exact h
def qbl (b:Expr):Prop:=∀ o i,subscripted b false o i=operate [o,i] (getItem o i)
def IxR (X:Cx) (r:R2):Prop:=
 ∀ (value slice:Expr) (pins:List (Addr×Obj)) (s:Shared) (σ:St) (H:Hp) (x y:V) (v u:Value) (Q:VK),Inv X pins σ H s→qM x v→qM y u→r x y H Q→
  subscripted slice false v u=operate [v,u] (getItem v u)→wpAny (model X.prog X.w) X.A (subscriptTail value slice v u) (EP X pins σ Q) X.xe s
def MtR (X:Cx) (id:String) (r:V→List V→Hp→VK→Prop):Prop:=
 ∀ (pins:List (Addr×Obj)) (s:Shared) (σ:St) (H:Hp) (x:V) (xs:List V) (v:Value) (us:List Value) (Q:VK),Inv X pins σ H s→qM x v→qP xs us→r x xs H Q→
  wpAny (model X.prog X.w) X.A (call (.builtin id) (v::us)) (EP X pins σ Q) X.xe s
section
variable {X:Cx} {a b:Expr} {ta tb:TE} {pos:Pos}
theorem IxR.or {r r':R2} (h:IxR X r) (h':IxR X r'):IxR X (fun x y H Q=>r x y H Q∨r' x y H Q):=by
 intro value slice pins s σ H x y v u Q I rx ry q hs;rcases q with q | q
 ·exact h value slice pins s σ H x y v u Q I rx ry q hs
 ·exact h' value slice pins s σ H x y v u Q I rx ry q hs
theorem qks {r:R2} (hr:IxR X r) (ha:PE X a ta) (hb:PE X b tb) (hs:qbl b):PE X (.Subscript a b pos) (tOp r ta tb):=by
 intro pins s σ H Q I h;exact Subscript_ (qjx ha hb I h fun v u s2 x y H2 I2 rx ry q=>hr a b pins s2 σ H2 x y v u Q I2 rx ry q (hs _ _))
def qkl (K:Frag):R2:=fun x y H Q=>∃ p xs i v,x= .ref p∧y= .int i∧SqL K H p xs∧atI xs i=some v∧Q v H
def qkj (K:Frag):R2:=fun x y H Q=>∃ p xs i v,x= .ref p∧y= .int i∧SqT K H p xs∧atI xs i=some v∧Q v H
def qkk:R2:=fun x y H Q=>∃ z i c,x= .str z∧y= .int i∧z.length≤sizeLine∧atI z.cps.toList i=some c∧Q (.str ⟨#[c]⟩) H
theorem qg5:IxR X (qkl X.K):=by
 intro value slice pins s σ H x y v u Q I rx ry h hs;obtain ⟨p,xs,i,z,rfl,rfl,hq,he,q⟩:=h;cases rx;obtain ⟨t,rfl⟩:=ry;obtain ⟨its,r,pl,hz⟩:=I.list hq;obtain ⟨j,h1,h2,h3,h4,h5⟩:=X2 he;obtain ⟨w,ew,rw'⟩:=r.get h2;have hl:=r.length;have hn:=wm;have fin:EP X pins σ Q w s:=⟨z,H,I,rw',q⟩
 by_cases h0:0≤i
 ·have hj:i.toNat=j:=by
   rw [seqIndex_of h0 h5] at h1;exact Be h1
  exact item_listR pl.isList h0 ⋯ (by rw [hj];simpa using ew) fin hs
 ·have hj:(i+(its.toArray.size:Int)).toNat=j:=by
   rw [seqIndex_neg ⋯ h4] at h1;rw [Ar,← hl];exact Be h1
  exact subscriptTail_builtinR (x:=w) pl.isList.typeIs slot_list_getitem.lookup
   (wpAny_getItem_list_neg (Q:=fun r s'=>r=w∧EP X pins σ Q r s') pl.isList ⋯ (by rw [Ar] <;> omega) ⋯ (by rw [hj];simpa using ew) ⟨rfl,fin⟩) hs
theorem qjh:IxR X (qkj X.K):=by
 intro value slice pins s σ H x y v u Q I rx ry h hs;obtain ⟨p,xs,i,z,rfl,rfl,hq,he,q⟩:=h;cases rx;obtain ⟨t,rfl⟩:=ry;obtain ⟨its,r,pl,hz⟩:=I.tuple hq;obtain ⟨j,h1,h2,h3,h4,h5⟩:=X2 he;obtain ⟨w,ew,rw'⟩:=r.get h2;have hl:=r.length;have hn:=wm;have fin:EP X pins σ Q w s:=⟨z,H,I,rw',q⟩;exact subscriptTail_builtinR (x:=w) pl.typeIs slot_tuple_getitem.lookup
  (getItem_tuple (j:=j) (Q:=fun r s'=>r=w∧EP X pins σ Q r s') pl ⋯ ⋯ (by rw [Ar,← hl];exact h1) (by simpa using ew) ⟨rfl,fin⟩) hs
theorem qji:IxR X qkk:=by
 intro value slice pins s σ H x y v u Q I rx ry h hs;obtain ⟨z,i,c,rfl,rfl,hz,he,q⟩:=h;obtain ⟨t,rfl⟩:=rx;obtain ⟨t',rfl⟩:=ry;obtain ⟨j,h1,h2,h3,h4,h5⟩:=X2 he;have hl:z.cps.toList.length=z.length:=by simp [Str.length]
 rw [hl] at h1 h4 h5;have hn:=wm;exact tail_any (typeIs_str s z t) slot_str_getitem.lookup (getItem_str (c:=c) (by
  have e1:decide (i< -(2 ^ 63:Int))=false:=As ⋯;have e2:decide (i ≥ 2 ^ 63)=false:=As ⋯;rw [e1,e2,Ed]) (by rw [h1];simpa using h2) ⟨.str ⟨#[c]⟩,H,I.tok _,⟨_,rfl⟩,q⟩) hs
def rIx (K:Frag):R2:=fun x y H Q=>qkl K x y H Q∨qkj K x y H Q∨qkk x y H Q
theorem qjj:IxR X (rIx X.K):=qg5.or (qjh.or qji)
theorem QT (its:List Value) (n j:Nat) (u:Value):Obj.mapSeq (·.setIfInBounds j u) {cls:= .type "list",data:= .seq its.toArray n}={cls:= .type "list",data:= .seq (its.set j u).toArray n}:=by
 simp [Obj.mapSeq]
theorem Inv.lst {pins:List (Addr×Obj)} {σ:St} {H:Hp} {s:Shared} {p:Addr} {xs:List V} (I:Inv X pins σ H s) (h:H p=some (.lst xs)):
  ∃ (its:List Value) (n:Nat),qP xs its∧s.heap.get? p=some {cls:= .type "list",data:= .seq its.toArray n}∧xs.length≤sizeLine:=by
 obtain ⟨z,its,n,r,e⟩:=I.hok p _ h;exact ⟨its,n,r,e,z⟩
theorem Inv.lstUpd {pins:List (Addr×Obj)} {σ:St} {H:Hp} {s:Shared} {p:Addr} {xs ys:List V} {its its':List Value} {n n':Nat} {f:Obj→Obj} (I:Inv X pins σ H s) (h:H p=some (.lst xs))
  (ho:s.heap.get? p=some {cls:= .type "list",data:= .seq its.toArray n}) (hf:f {cls:= .type "list",data:= .seq its.toArray n}={cls:= .type "list",data:= .seq its'.toArray n'}) (r:qP ys its') (hz:ys.length≤sizeLine) (t:Nat):
  Inv X pins σ (upd H p (.lst ys)) {s with heap:=s.heap.update p f,toks:=t}:=by
 have e:(s.heap.update p f).get? p=some {cls:= .type "list",data:= .seq its'.toArray n'}:=by
  rw [Cb f ho (by rw [hf] <;> rfl),hf]
 refine I.write (x:=p) (e:=p) (by rw [h];trivial) (.inl rfl) (fun b u hb q=>(Bn _ _ (Ne.symm hb)).trans q) ⟨_,e⟩ ?_
 exact ⟨hz,its',n',r,e⟩
def qki:V→V→V→Hp→(Hp→Prop)→Prop:=fun o i v H Q=>∃ p xs k j,o= .ref p∧i= .int k∧H p=some (.lst xs)∧ixN xs.length k=some j∧Q (upd H p (.lst (xs.set j v)))
theorem qea:qld X qki:=by
 intro pins s σ H o i v ov iv u Q I ro ri rv h;obtain ⟨p,xs,k,j,rfl,rfl,hp,hj,q⟩:=h;cases ro;obtain ⟨t,rfl⟩:=ri;obtain ⟨its,n,r,ho,hz⟩:=I.lst hp;obtain ⟨h1,h2,h3,h4⟩:=qa4 hj;have hl:=r.length;have hn:=wm;have I':Inv X pins σ (upd H p (.lst (xs.set j v))) {s with heap:=s.heap.update p (Obj.mapSeq (·.setIfInBounds j u))}:=
  I.lstUpd hp ho (QT its n j u) (r.set rv j) (by rw [Dy];exact hz) s.toks
 by_cases h0:0≤k
 ·have hk:k.toNat=j:=by
   rw [seqIndex_of h0 h4] at h1;exact Be h1
  exact PySem.W.ki_setAt ho h0 ⋯ (by rw [Ar,← hl];exact h4) (by rw [hk];exact ⟨_,I',q⟩)
 ·have hk:(k+(its.toArray.size:Int)).toNat=j:=by
   rw [seqIndex_neg ⋯ h3] at h1;rw [Ar,← hl];exact Be h1
  exact PySem.W.ki_setBack ho ⋯ (by rw [Ar,← hl];exact h3) ⋯ (by rw [hk];exact ⟨_,I',q⟩)
theorem Xj (lo hi:Option Int) (n:Nat):(sliceBounds lo hi none n).1=((HT.sIx n 0 lo:Nat):Int)∧(sliceBounds lo hi none n).2.1=((HT.sIx n n hi:Nat):Int)∧(sliceBounds lo hi none n).2.2=1:=by
 refine ⟨?_,?_,rfl⟩
 ·cases lo with
  | none=>simp [sliceBounds,HT.sIx]
  | some i=>
   simp only [sliceBounds,HT.sIx,Option.getD_none,show (1:Int)>0 from O0,if_true]
   by_cases h:i<0
   ·simp only [h,if_true] <;> omega
   ·simp only [h,if_false] <;> omega
 ·cases hi with
  | none=>simp [sliceBounds,HT.sIx]
  | some i=>
   simp only [sliceBounds,HT.sIx,Option.getD_none,show (1:Int)>0 from O0,if_true]
   by_cases h:i<0
   ·simp only [h,if_true] <;> omega
   ·simp only [h,if_false] <;> omega
theorem Yd (its:List Value) (lo hi:Option Int):slicePick its.toArray lo hi none=((its.drop (HT.sIx its.length 0 lo)).take (HT.sIx its.length its.length hi - HT.sIx its.length 0 lo)).toArray:=by
 obtain ⟨h1,h2,h3⟩:=Xj lo hi its.toArray.size;unfold slicePick;rw [h1,h2,h3];simp only [sliceRange_one,pick_run,Ar] <;> rfl
def qkh (K:Frag):V→Option Int→Option Int→Hp→VK→Prop:=fun x lo hi H Q=>∃ a xs,x= .ref a∧SqL K H a xs∧∀ p,H p=none→Q (.ref p) (upd H p (.lst (v7 xs lo hi)))
theorem qf3:SlR X (qkh X.K):=by
 intro pins s σ H x v vl vu lo hi sl Q I rx hs pl pu h;obtain ⟨a,xs,rfl,hx,q⟩:=h;cases rx;obtain ⟨its,r,ht,hz⟩:=I.list hx;have hlen:=r.length;refine ⟨"list",_,slot_list_getitem.lookup,ht.isList.typeIs,?_⟩;refine wpAny_getItem_list_slice ht.isList hs pl pu .none (by simp) ?_ (by rw [Ar] <;> omega)
 rw [Yd,← hlen];refine ⟨.ref s.heap.objs.size,_,I.laid (t':=s.toks) (o:= .lst (v7 xs lo hi)) (fun b ob q=>Af _ q) (Ah _) ?_,rfl,q _ (I.hok.fresh (Ah _))⟩;exact ⟨Av (Wj xs lo hi) hz,_,0,(r.drop (HT.sIx xs.length 0 lo)).take (HT.sIx xs.length xs.length hi - HT.sIx xs.length 0 lo),Aw _ rfl⟩
def vf:V→Bool
 | .non=>true
 | .bl _=>true
 | .int _=>true
 | .str _=>true
 | _=>false
def eqV:V→V→Bool
 | .non,.non=>true
 | .bl a,.bl b=>a==b
 | .bl a,.int b=>(if a then 1 else 0)==b
 | .int a,.bl b=>a==(if b then 1 else 0)
 | .int a,.int b=>a==b
 | .str a,.str b=>a==b
 | _,_=>false
theorem qjp {A:Around} {s:Shared} {y x:V} {u v:Value} (ry:qM y u) (rx:qM x v) (fy:vf y=true) (fx:vf x=true):SeqAt.EqAt A s u v (eqV y x):=by
 cases y with
 | non=>
  cases ry;cases x with
  | non=>cases rx;exact SeqAt.EqAt.same _
  | bl b=>cases rx;exact SeqAt.EqAt.none_bool b
  | int b=>obtain ⟨t,rfl⟩:=rx;exact SeqAt.EqAt.none_int b t
  | str b=>obtain ⟨t,rfl⟩:=rx;exact SeqAt.EqAt.none_str b t
  | _=>exact absurd (show false=true from fx) Ag
 | bl a=>
  cases ry;cases x with
  | non=>cases rx;exact SeqAt.EqAt.bool_none a
  | bl b=>cases rx;exact SeqAt.EqAt.bool_bool a b
  | int b=>obtain ⟨t,rfl⟩:=rx;exact SeqAt.EqAt.bool_int a b t
  | str b=>obtain ⟨t,rfl⟩:=rx;exact SeqAt.EqAt.bool_str a b t
  | _=>exact absurd (show false=true from fx) Ag
 | int a=>
  obtain ⟨t',rfl⟩:=ry;cases x with
  | non=>cases rx;exact SeqAt.EqAt.int_none a t'
  | bl b=>cases rx;exact SeqAt.EqAt.int_bool a t' b
  | int b=>obtain ⟨t,rfl⟩:=rx;exact SeqAt.EqAt.int_int a t' b t
  | str b=>obtain ⟨t,rfl⟩:=rx;exact SeqAt.EqAt.int_str a t' b t
  | _=>exact absurd (show false=true from fx) Ag
 | str a=>
  obtain ⟨t',rfl⟩:=ry;cases x with
  | non=>cases rx;exact SeqAt.EqAt.str_none a t'
  | bl b=>cases rx;exact SeqAt.EqAt.str_bool a t' b
  | int b=>obtain ⟨t,rfl⟩:=rx;exact SeqAt.EqAt.str_int a t' b t
  | str b=>obtain ⟨t,rfl⟩:=rx;exact SeqAt.EqAt.str_str a t' b t
  | _=>exact absurd (show false=true from fx) Ag
 | _=>exact absurd (show false=true from fy) Ag
def eqU (x:V) (u:Value):Bool:=match u with
 | .none=>eqV .non x
 | .bool b=>eqV (.bl b) x
 | .int i _=>eqV (.int i) x
 | .str z _=>eqV (.str z) x
 | _=>false
theorem qfg {x y:V} {u:Value} (r:qM y u) (f:vf y=true):eqU x u=eqV y x:=by
 cases y with
 | non=>cases r;rfl
 | bl b=>cases r;rfl
 | int i=>obtain ⟨t,rfl⟩:=r;rfl
 | str z=>obtain ⟨t,rfl⟩:=r;rfl
 | _=>exact absurd (show false=true from f) Ag
theorem V2 {x:V}:∀ {xs:List V} {us:List Value},qP xs us→xs.all vf=true→us.any (eqU x)=xs.any fun y=>eqV y x
 | _,_,.nil,_=>rfl
 | y::xs,u::us,.cons r t,f=>by
  rw [E5,Ae] at f;rw [Cu,Cu,qfg r f.1,V2 t f.2]
theorem vz {A:Around} {s:Shared} {x:V} {v:Value} (rx:qM x v) (fx:vf x=true):∀ {xs:List V} {us:List Value},qP xs us→xs.all vf=true→∀ u∈us,SeqAt.EqAt A s u v (eqU x u)
 | _,_,.nil,_=>fun u hu=>by cases hu
 | y::xs,u::us,.cons r t,f=>fun u' hu=>by
  rw [E5,Ae] at f;rcases Ap.mp hu with rfl | hu
  ·rw [qfg r f.1];exact qjp r rx f.1 fx
  ·exact vz rx fx t f.2 u' hu
def inV (x:V) (xs:List V):Bool:=xs.any fun y=>eqV y x
def rIn (K:Frag) (neg:Bool):R2:=fun x y H Q=>∃ p xs,y= .ref p∧(SqL K H p xs∨SqT K H p xs)∧vf x=true∧xs.all vf=true∧Q (.bl (if neg then !inV x xs else inV x xs)) H
theorem qcc:OpR X (compareOp .In) (rIn X.K false):=by
 intro pins s σ H x y v u Q I rx ry h;obtain ⟨p,xs,rfl,hq,fx,fs,q⟩:=h;cases ry;rcases hq with hq | hq
 ·obtain ⟨its,r,pl,hz⟩:=I.list hq;refine SeqAt.in_listAt (eqU x) pl.isList (fun w hw=>vz rx fx r fs w (by simpa using hw)) ⟨.bl _,H,I,rfl,?_⟩
  rw [show its.toArray.any (eqU x)=its.any (eqU x) by simp,V2 r fs]
  exact q
 ·obtain ⟨its,r,pl,hz⟩:=I.tuple hq;refine SeqAt.in_tupleAt (eqU x) pl (fun w hw=>vz rx fx r fs w (by simpa using hw)) ⟨.bl _,H,I,rfl,?_⟩
  rw [show its.toArray.any (eqU x)=its.any (eqU x) by simp,V2 r fs]
  exact q
theorem Xu:OpR X (compareOp .NotIn) (rIn X.K true):=by
 intro pins s σ H x y v u Q I rx ry h;obtain ⟨p,xs,rfl,hq,fx,fs,q⟩:=h;cases ry;rcases hq with hq | hq
 ·obtain ⟨its,r,pl,hz⟩:=I.list hq;refine SeqAt.notIn_listAt (eqU x) pl.isList (fun w hw=>vz rx fx r fs w (by simpa using hw)) ⟨.bl _,H,I,rfl,?_⟩
  rw [show its.toArray.any (eqU x)=its.any (eqU x) by simp,V2 r fs]
  exact q
 ·obtain ⟨its,r,pl,hz⟩:=I.tuple hq;refine SeqAt.notIn_tupleAt (eqU x) pl (fun w hw=>vz rx fx r fs w (by simpa using hw)) ⟨.bl _,H,I,rfl,?_⟩
  rw [show its.toArray.any (eqU x)=its.any (eqU x) by simp,V2 r fs]
  exact q
theorem vc:jK X (.type "list") (fun xs H Q=>∃ p ys,xs=[.ref p]∧(SqL X.K H p ys∨SqT X.K H p ys)∧∀ l,H l=none→Q (.ref l) (upd H l (.lst ys))):=by
 intro pins s σ H xs us Q I r h;obtain ⟨p,ys,rfl,hq,q⟩:=h;obtain ⟨u,rfl,rx⟩:=Ja r;cases rx;have fin:∀ (its:List Value),qP ys its→ys.length≤sizeLine→∀ (h':Heap) (c':Nat),(∀ b o',s.heap.get? b=some o'→h'.get? b=some o')→
   h'.get? s.heap.objs.size=some {cls:= .type "list",dict:=none,data:= .seq its.toArray c',slots:= #[]}→EP X pins σ Q (.ref s.heap.objs.size) {s with heap:=h'}:=fun its r' hz h' c' kp e=>
  ⟨.ref s.heap.objs.size,_,I.laid (t':=s.toks) kp (Ah _) (show zd X.prog X.w _ h' _ (.lst ys) from ⟨hz,its,c',r',e⟩),rfl,q _ (I.hok.fresh (Ah _))⟩
 rcases hq with hq | hq
 ·obtain ⟨its,r',pl,hz⟩:=I.list hq;have hlen:=r'.length;obtain ⟨o,ho,hc,n,hd⟩:=pl.isList;exact call_list_seq p (.inl rfl) ho hc hd (fun h' c' kp e=>fin its r' hz h' c' kp e) (by simp only [Ar] <;> omega)
 ·obtain ⟨its,r',pl,hz⟩:=I.tuple hq;have hlen:=r'.length;obtain ⟨o,ho,hc,n,hd⟩:=pl;exact call_list_seq p (.inr rfl) ho hc hd (fun h' c' kp e=>fin its r' hz h' c' kp e) (by simp only [Ar] <;> omega)
theorem Yj:jK X (.type "tuple") (fun xs H Q=>∃ p ys,xs=[.ref p]∧((SqL X.K H p ys∧∀ l,H l=none→Q (.ref l) (upd H l (.tup ys)))∨(SqT X.K H p ys∧Q (.ref p) H))):=by
 intro pins s σ H xs us Q I r h;obtain ⟨p,ys,rfl,h⟩:=h;obtain ⟨u,rfl,rx⟩:=Ja r;cases rx;rcases h with ⟨hq,q⟩ | ⟨hq,q⟩
 ·obtain ⟨its,r',pl,hz⟩:=I.list hq;have hlen:=r'.length;refine call_tuple_list pl.isList (fun h' kp=>?_) (by simp only [Ar] <;> omega)
  have I1:Inv X pins σ H {s with heap:=h'}:=I.kept (t':=s.toks) kp
  have I2:Inv X pins σ (upd H h'.objs.size (.tup ys)) {s with heap:=h'.push {cls:= .type "tuple",data:= .seq its.toArray}}:=
   I1.laid (t':=s.toks) (fun b o e=>Af _ e) (Ah _) (show zd X.prog X.w _ _ _ (.tup ys) from ⟨hz,its,r',IsTup.new _ _⟩)
  exact ⟨.ref h'.objs.size,_,I2,rfl,q _ (I1.hok.fresh (Ah _))⟩
 ·obtain ⟨its,r',pl,hz⟩:=I.tuple hq;exact call_tuple_same pl ⟨.ref p,H,I,rfl,q⟩
def tyV (K:Frag) (T:String) (x:V) (H:Hp):Prop:=match x with
 | .str _=>T="str"
 | .int _=>T="int"
 | .ref p=>(T="list"∧∃ xs,SqL K H p xs)∨(T="tuple"∧∃ o,K.lookup p=some o∧o.cls= .type "tuple"∧o.dict=none)∨
   (T="dict"∧((∃ kvs,H p=some (.dK kvs))∨∃ kvs,H p=some (.dT kvs)))∨(T="set"∧∃ S n,H p=some (.set S n))
 | _=>False
theorem qdm {pins:List (Addr×Obj)} {σ:St} {H:Hp} {s:Shared} {T:String} {x:V} {v:Value} (I:Inv X pins σ H s) (r:qM x v) (ty:tyV X.K T x H):
  s.TypeIs v T∧∀ a,v= .ref a→∃ ob,s.heap.get? a=some ob∧ob.dict=none:=by
 cases x with
 | str z=>
  obtain ⟨t,rfl⟩:=r;cases (show T="str" from ty);exact ⟨typeIs_str s z t,fun _ e=>nomatch e⟩
 | int i=>
  obtain ⟨t,rfl⟩:=r;cases (show T="int" from ty);exact ⟨typeIs_int s i t,fun _ e=>nomatch e⟩
 | ref p=>
  cases r;rcases ty with ⟨rfl,xs,hq⟩ | ⟨rfl,o,hk,hc,hd⟩ | ⟨rfl,hk⟩ | ⟨rfl,S,n,hk⟩
  ·obtain ⟨its,_,pl,_⟩:=I.list hq;refine ⟨pl.isList.typeIs,fun a e=>?_⟩;cases e;obtain ⟨o,n,e,c,hd,_⟩:=pl;exact ⟨o,e,hd⟩
  ·refine ⟨⟨o,I.kIn p o hk,hc⟩,fun a e=>?_⟩;cases e;exact ⟨o,I.kIn _ o hk,hd⟩
  ·have z:∃ o,s.heap.get? p=some o∧o.ExactDict:=by
    rcases hk with ⟨kvs,hk⟩ | ⟨kvs,hk⟩
    ·obtain ⟨_,_,_,_,o,_,_,e,ex,_⟩:=I.hok p _ hk;exact ⟨o,e,ex⟩
    ·obtain ⟨_,_,_,_,o,_,_,e,ex,_⟩:=I.hok p _ hk;exact ⟨o,e,ex⟩
   obtain ⟨o,e,ex⟩:=z;refine ⟨⟨o,e,ex.1⟩,fun a e2=>?_⟩;cases e2;exact ⟨o,e,ex.2.1⟩
  ·obtain ⟨o,_,_,_,e,ex,_⟩:=I.hok p _ hk;refine ⟨⟨o,e,ex.1⟩,fun a e2=>?_⟩;cases e2;exact ⟨o,e,ex.2.1⟩
 | _=>exact False.elim ty
def qfz (K:Frag) (T:String) (r:V→List V→Hp→VK→Prop) (to:TE):TE:=fun σ H Q=>to σ H fun x H1=>tyV K T x H1∧r x [] H1 Q
def tBM (K:Frag) (T:String) (r:V→List V→Hp→VK→Prop) (to:TE) (t:TA):TE:=fun σ H Q=>to σ H fun x H1=>tyV K T x H1∧t σ H1 fun xs H2=>r x xs H2 Q
variable {o e:Expr} {es:List Expr} {to:TE} {t:TA} {name:Str} {apos cpos:Pos} {T id:String} {r:V→List V→Hp→VK→Prop}
theorem qiz (pa:PlainAttrs T) (slot:Slot T name id) (hty:typeOf (.builtin id)=pure (.type "method_descriptor")) (hm:MtR X id r) (ho:PE X o to)
  (hbase:attributeBase o name X.env (eval o X.env)=eval o X.env:=by rfl) (hline:(apos.endLine==cpos.line)=true:=by rfl):PE X (.Call (.Attribute o name apos) [] [] cpos) (qfz X.K T r to):=by
 intro pins s σ H Q I h;refine wpAny_Call_method0_late hbase hline (thn (ho pins s σ H _ I h) fun v s1 ⟨x,H1,I1,r1,ty,q1⟩=>?_);obtain ⟨h1,h2⟩:=qdm I1 r1 ty;exact ⟨T,id,pa,slot,hty,h1,h2,Calls.callWith_builtin rfl (PySem.evalArgs_none (hm pins s1 σ H1 x [] v [] Q I1 r1 .nil q1))⟩
theorem qkt (pa:PlainAttrs T) (slot:Slot T name id) (hty:typeOf (.builtin id)=pure (.type "method_descriptor")) (hm:MtR X id r) (ho:PE X o to) (ha:PA X (e::es) t)
  (hbase:attributeBase o name X.env (eval o X.env)=eval o X.env:=by rfl)
  (hfew:((backTo cpos (starEach (e::es) X.env)).all (fun x=>!x.1)&&(backToKw cpos (keywordEach [] X.env)).all (fun x=>x.1.isSome)
   &&decide ((e::es).length+([]:List Keyword).length+(if ([]:List Keyword).isEmpty then 0 else 1)<30))=true:=by rfl)
  (hline:(apos.endLine==cpos.line)=true:=by rfl) (hs:starEach (e::es) X.env=(false,eval e X.env)::starEach es X.env:=by rfl) (hplain:(backTo cpos (starEach es X.env)).any (·.1)=false:=by rfl):
  PE X (.Call (.Attribute o name apos) (e::es) [] cpos) (tBM X.K T r to t):=by
 intro pins s σ H Q I h;refine wpAny_Call_method_late hbase hfew hline rfl (thn (ho pins s σ H _ I h) fun v s1 ⟨x,H1,I1,r1,ty,q1⟩=>?_);obtain ⟨h1,h2⟩:=qdm I1 r1 ty;refine ⟨T,id,pa,slot,hty,h1,h2,?_⟩;have hA:=ha cpos pins s1 σ H1 _ I1 q1;rw [hs] at hA ⊢;refine Calls.callWith_builtin (by show (false||(backTo cpos (starEach es X.env)).any (·.1))=false;rw [hplain] <;> rfl) (Eo ?_)
 exact thn hA fun us s2 ⟨vs,H2,I2,r2,q2⟩=>hm pins s2 σ H2 x vs v us Q I2 r1 r2 q2
end
def MtM (X:Cx) (id:String) (r:V→List V→Hp→VK→Prop):Prop:=
 ∀ (pins:List (Addr×Obj)) (s:Shared) (σ:St) (H:Hp) (x:V) (xs:List V) (v:Value) (us:List Value) (Q:VK),Inv X pins σ H s→qM x v→qP xs us→r x xs H Q→
  wpAny (model X.prog X.w) X.A (call (.builtin id) (v::us)) (EP X pins σ Q) X.xe s
theorem qP.one:∀ {x:V} {us:List Value},qP [x] us→∃ u,us=[u]∧qM x u
 | _,_,.cons r .nil=>⟨_,rfl,r⟩
theorem qP.zero:∀ {us:List Value},qP [] us→us=[]
 | _,.nil=>rfl
theorem qP.dropLast {xs:List V} {us:List Value} (h:qP xs us):qP xs.dropLast us.dropLast:=by
 induction h with
 | nil=>exact .nil
 | cons r t ih=>
  cases t with
  | nil=>exact .nil
  | cons q t'=>exact .cons r ih
theorem Q1 {α:Type} (l:List α):l.eraseIdx (l.length - 1)=l.dropLast:=by
 induction l with
 | nil=>rfl
 | cons a r ih=>
  cases r with
  | nil=>rfl
  | cons b r=>
   have e:(a::b::r).length - 1=((b::r).length - 1)+1:=by
    have h1:(a::b::r).length=r.length+2:=rfl;have h2:(b::r).length=r.length+1:=rfl;omega
   rw [e,List.eraseIdx_cons_succ,ih]
   all_goals rfl
section
variable {X:Cx} {pins:List (Addr×Obj)} {σ:St} {H:Hp} {s:Shared} {l b:Addr} {xs ys zs:List V}
theorem Inv.lset {its its':List Value} {n:Nat} {f:Array Value→Array Value} {t':Nat} (I:Inv X pins σ H s) (hH:H l=some (.lst xs))
  (e:s.heap.get? l=some {cls:= .type "list",data:= .seq its.toArray n}) (hf:f its.toArray=its'.toArray) (hv:qP ys its') (hz:ys.length≤sizeLine):
  Inv X pins σ (upd H l (.lst ys)) {s with heap:=s.heap.update l (Obj.mapSeq f),toks:=t'}:=by
 have q:=PySem.IsL.update e f;rw [hf] at q;refine I.write (x:=l) (e:=l) (by rw [hH];exact trivial) (.inl rfl) (fun b' u hb hu=>(Bn s.heap (Obj.mapSeq f) (Ne.symm hb)).trans hu) ⟨_,q⟩ ?_
 exact ⟨hz,its',_,hv,q⟩
theorem Inv.lnew {its:List Value} {t':Nat} (I:Inv X pins σ H s) (hv:qP ys its) (hz:ys.length≤sizeLine):
  Inv X pins σ (upd H s.heap.objs.size (.lst ys)) {s with heap:=s.heap.push {cls:= .type "list",data:= .seq its.toArray},toks:=t'}:=
 I.laid (fun _ _ q=>Af _ q) (Ah _) ⟨hz,its,0,hv,Aw _ rfl⟩
theorem Inv.fresh (I:Inv X pins σ H s):H s.heap.objs.size=none:=I.hok.fresh (Ah _)
theorem Inv.lstM (I:Inv X pins σ H s) (hH:H l=some (.lst xs)):xs.length≤sizeLine∧∃ (its:List Value) (n:Nat),qP xs its∧xs.length=its.length∧s.heap.get? l=some {cls:= .type "list",data:= .seq its.toArray n}:=by
 obtain ⟨z,its,n,r,e⟩:=I.hok l _ hH;exact ⟨z,its,n,r,r.length,e⟩
theorem qes {n:Nat} (h:n≤sizeLine):Builtin.List.listTooLong n=false:=by
 unfold Builtin.List.listTooLong;exact As ⋯
end
section
variable {X:Cx}
def z9:V→List V→Hp→VK→Prop:=fun x vs H Q=>∃ l xs y,x= .ref l∧vs=[y]∧H l=some (.lst xs)∧xs.length<sizeLine∧Q .non (upd H l (.lst (xs++[y])))
theorem zX:MtM X "list.append" z9:=by
 intro pins s σ H x vs v us Q I rx rv h;obtain ⟨l,xs,y,rfl,rfl,hH,hz,q⟩:=h;cases rx;obtain ⟨u,rfl,ru⟩:=rv.one;obtain ⟨z,its,n,r,hl,e⟩:=I.lstM hH;refine call_meets F.slot_list_append ⟨_,e,rfl⟩ F.entry_list_append (F.args_list_append_2 _ _) (PySem.list_append l its.toArray n u (by rw [Ar];omega)) ⟨e,?_⟩
 refine ⟨.non,_,I.lset (its':=its++[u]) hH e (by simp) (r.append (.cons ru .nil)) ?_,rfl,q⟩
 rw [Ac,At];omega
def jT:V→List V→Hp→VK→Prop:=fun x vs H Q=>∃ l b xs zs,x= .ref l∧vs=[.ref b]∧H l=some (.lst xs)∧H b=some (.lst zs)∧xs.length+zs.length≤sizeLine∧Q .non (upd H l (.lst (xs++zs)))
theorem jv:MtM X "list.extend" jT:=by
 intro pins s σ H x vs v us Q I rx rv h;obtain ⟨l,b,xs,zs,rfl,rfl,hH,hB,hz,q⟩:=h;cases rx;obtain ⟨u,rfl,ru⟩:=rv.one;cases ru;obtain ⟨z,its,n,r,hl,e⟩:=I.lstM hH;obtain ⟨z2,its2,n2,r2,hl2,e2⟩:=I.lstM hB;have hsz:its.toArray.size+its2.toArray.size≤sizeLine:=by rw [Ar,Ar];omega
 have hlong:¬ (!its.toArray.isEmpty&&Builtin.List.listTooLong (its.toArray.size+its2.toArray.size))=true:=by
  rw [qes hsz,C9];exact Ag
 refine call_meets F.slot_list_extend ⟨_,e,rfl⟩ F.entry_list_extend (F.args_list_extend_2 _ _)
  (AutoSeq1.list_extend_list_list_0 l its.toArray n b its2.toArray n2 hlong (by rw [Ar];omega) ⋯) ⟨e,e2,?_⟩
 refine ⟨.non,_,I.lset (its':=its++its2) hH e (by simp) (r.append r2) ?_,rfl,q⟩
 rw [Ac];omega
def qig:V→List V→Hp→VK→Prop:=fun x vs H Q=>∃ l xs y,x= .ref l∧vs=[]∧H l=some (.lst xs)∧xs[xs.length - 1]?=some y∧Q y (upd H l (.lst xs.dropLast))
theorem qet:MtM X "list.pop" qig:=by
 intro pins s σ H x vs v us Q I rx rv h;obtain ⟨l,xs,y,rfl,rfl,hH,hy,q⟩:=h;cases rx;have hus:=rv.zero;subst hus;obtain ⟨z,its,n,r,hl,e⟩:=I.lstM hH;obtain ⟨u,hu,ru⟩:=r.get hy;have hy':its.toArray[its.toArray.size - 1]?=some u:=by
  show its.toArray[its.length - 1]?=some u;rw [← Array.getElem?_toList,← hl];exact hu
 refine call_meets F.slot_list_pop ⟨_,e,rfl⟩ F.entry_list_pop (F.args_list_pop_1 _) (MeetsSeq.list_pop_last l its.toArray n u hy' (by rw [Ar];omega)) ⟨e,?_⟩
 refine ⟨y,_,I.lset (its':=its.dropLast) hH e ?_ r.dropLast ?_,ru,q⟩
 ·show its.toArray.eraseIdxIfInBounds (its.toArray.size - 1)=its.dropLast.toArray;rw [Ar,List.eraseIdxIfInBounds_toArray,Q1]
 ·rw [List.length_dropLast];omega
def qkn:R2:=fun x y H Q=>∃ l b xs zs,x= .ref l∧y= .ref b∧H l=some (.lst xs)∧H b=some (.lst zs)∧xs.length+zs.length≤sizeLine∧∀ p,H p=none→Q (.ref p) (upd H p (.lst (xs++zs)))
theorem qi5:OpR X (binaryOp .Add) qkn:=by
 intro pins s σ H x y v u Q I rx ry h;obtain ⟨l,b,xs,zs,rfl,rfl,hH,hB,hz,q⟩:=h;cases rx;cases ry;obtain ⟨z,its,n,r,hl,e⟩:=I.lstM hH;obtain ⟨z2,its2,n2,r2,hl2,e2⟩:=I.lstM hB;refine PySem.P.add_list e e2 ?_ (by rw [Ar,Ar];omega)
 have ea:its.toArray++its2.toArray=(its++its2).toArray:=by simp
 rw [ea];exact ⟨.ref _,_,I.lnew (t':=s.toks) (r.append r2) (by rw [Ac];omega),rfl,q _ I.fresh⟩
end
section
variable {prog:Program} {w:World} {A:Around} {E:Value→Shared→Prop} {s:Shared}
end
section
variable {X:Cx}
end
end L2
namespace Att
open PySem PySem.W PySem.Calls PyProof.Rows
theorem Wu {P:Params} {h:Heap}:∀ (ns:List Int) (vs:List Value),WellAll P h vs (ns.map WData.int)→IntsAre vs ns:=by
 intro ns
 induction ns with
 | nil=>
  intro vs w;rw [Em] at w;cases w;exact .nil
 | cons n ns ih=>
  intro vs w;rw [Ba] at w;cases w with
  | cons a b=>
   cases a;exact .cons _ _ (ih _ b)
theorem qb1 {l:OpenLaw} {n:Nat} (hn:l.most=some n) {P:Params} {h:Heap} {args:List WData} {vals:List Value}
  (hpre:l.row.toRowW.claim.pre args=true) (hwl:WellAll P h vals args):
  ∃ a vs ns,vals=[Value.ref a]∧args=[WData.list (ns.map WData.int)]∧h.get? a=some {cls:= .type "list",data:= .seq vs.toArray}∧IntsAre vs ns∧ns.length≤n:=by
 have hsh:WShape.hasAll [] args [.list .int]=true:=(pre_splitW hpre).1;have hc:l.pre.holds [] {args:=args}=true:=(pre_splitW hpre).2;obtain ⟨d,r,rfl,h1,h2⟩:=hasAllW_cons hsh;obtain rfl:=hasAllW_nil h2;obtain ⟨xs,rfl,h3⟩:=hasW_list h1;obtain ⟨ns,rfl⟩:=items_int h3;have hlen:ns.length≤n:=by
  unfold OpenLaw.pre at hc;have h4:(WTm.not (.lt (.lit (.int (n:Int))) (.len (.arg 0)))).holds [] {args:=[.list (ns.map .int)]}=true:=by
   have h4:=(holds_andW hc).1;rw [hn] at h4;exact h4
  have h5:=condW_of h4 (w_not (w_lt w_lit (w_len_list (w_arg rfl))));rw [Ab] at h5;refine Nat.le_of_not_lt fun q=>?_;have q':(n:Int)<((ns.length:Nat):Int):=⋯
  first
   | (rw [Ak q'] at h5;exact absurd h5 O0)
   | (simp at h5;omega)
 cases hwl with
 | cons w1 w2=>
  cases w2;cases w1 with
  | list ho hall=>exact ⟨_,_,ns,rfl,rfl,ho,Wu ns _ hall,hlen⟩
theorem qca (l:OpenLaw) (args:List WData):l.row.toRowW.claim.post args (.bool true) args=true:=
 postW_of (r:=l.row.toRowW) (X:=(true==true))
  (show WShape.has [] (.bool true) .bool=true by first | rfl | decide | simp [WShape.has,WShape.arms,WShape.armsAll])
  (show (WTm.eq .res (.lit (.bool true))).value [] {args:=args,res:=some (.bool true),after:=args}=some (.bool (true==true)) from w_eq_bool (w_res rfl) w_lit) rfl
theorem attach_call {l:OpenLaw} {n:Nat} {q:Program} {loose:List Str} {XP:(Str→Option Value)→Heap→Prop} {YP:World→Heap→Prop} {d:DefRec}
  (hn:l.most=some n) (hdf:d.params.defaults=[])
  (call:∀ (w:World) (s₀ s₁:Shared) (mg mb:Str→Option Value) (fa:Addr) (o:Obj) (pm cd doc:Value) (a:Addr) (vs:List Value) (ns:List Int),
   Ground q loose [] XP w s₀ mg mb s₁.heap→YP w s₁.heap→
   s₁.heap.get? fa=some o→o.data= .func (docDef d.name d.params d.body d.scope pm cd doc)→s₁.heap.CodeRec cd d.name→mg d.name=some (.ref fa)→
   s₁.heap.get? a=some {cls:= .type "list",data:= .seq vs.toArray}→IntsAre vs ns→ns.length≤n→s₁.gens= #[]→
   codeAny (model l.prog w) callerA (.call (.ref fa) ⟨[.ref a],[]⟩) (fun r s'=>r= .ok (.ret (.bool true))∧OldK s₁.heap s'.heap∧s'.os=s₁.os∧AllBare s'.gens) s₁):
  WalkO q loose XP YP l.row.toRowW d [] (fun f vs=>PySem.call f vs):=by
 intro w s₀ s₁ mg mb G Y fa o pm cd doc dV kV ho hd hcd hD hmg hg args vals as hpre hlay hrd hwl hlo;obtain rfl:dV= .none:=Dflts.none hD hdf;obtain rfl:kV= .none:=Dflts.noKw hD;obtain ⟨a,vs,ns,rfl,rfl,hobj,hints,hlen⟩:=qb1 hn hpre hwl;refine enter_call (El (call w s₀ s₁ mg mb fa o pm cd doc a vs ns G Y ho (fd_plain hd) hcd hmg hobj hints hlen hg) fun r s' hq=>?_);obtain ⟨rfl,h2,h3,h4⟩:=hq;exact ⟨.inl ⟨.bool true,.bool true,[],rfl,fun _=>rfl,.bool true,qca l _,fun _=>⟨List.Pairwise.nil,fun _ hm=>(nomatch hm)⟩⟩,h2,h3,h4⟩
section
variable {prog:Program} {w:World} {A:Around} {E:Value→Shared→Prop} {s:Shared} {K:Frag}
end
end Att
namespace L2
open PySem PySem.Spec PyProof.Rows
theorem V6:∀ {vs:List Value} {ns:List Int},IntsAre vs ns→qP (ns.map V.int) vs
 | _,_,.nil=> .nil
 | _,_,.cons n t h=> .cons ⟨t,rfl⟩ (V6 h)
def qj4 (H:Hp):Prop:=∀ b,H b=none∨∃ o xs,H b=some (.frz o (.lst xs))
def XM (s:Stmt) (j:Nat):Stmt:=match s with
 | .ClassDef _ _ _ body _ _ _ _ _ _ _=>body.getD j (.Pass ⟨0,0,0,0⟩)
 | _=> .Pass ⟨0,0,0,0⟩
def vZ (s:Stmt):Arguments:=match s with
 | .FunctionDef _ a _ _ _ _ _ _ _ _=>a
 | _=>{posonlyargs:=[],args:=[],vararg:=none,kwonlyargs:=[],kw_defaults:=[],kwarg:=none,defaults:=[]}
def jU (s:Stmt):List Stmt:=match s with
 | .FunctionDef _ _ b _ _ _ _ _ _ _=>b
 | _=>[]
def qj (s:Stmt):Scope:=match s with
 | .FunctionDef _ _ _ _ _ _ sc _ _ _=>sc
 | _=>{kind:= .function,names:=[],isGenerator:=false,isCoroutine:=false}
abbrev CX0:CXT:=fun _ _ _ _ _ _=>False
abbrev E0:XK:=fun _ _ _=>False
theorem qep {X:Cx}:Jt CX0 X E0:=fun _ _ _ _ _ _ _ h=>h.elim
structure Fun (K:Frag) (x qual:Str) (st:Stmt) (f:Addr) (fd:FuncData):Prop where
 ex:∃ (oc:Value) (od:Option Addr) (kV doc pm:Value) (an:Option Addr) (cdv ct:Value) (osl:Array (Option Value)),
  fd=PySem.W.fnOf x qual (vZ st) (jU st) (qj st) .none kV doc pm an cdv ct∧K.lookup f=some ⟨oc,od,.func fd,osl⟩∧PySem.W.codeIn K cdv qual=true
 kp:PySem.W.keepIn K (.ref f)=true
section
variable {P:Program} {w:World} {K:Frag} {mg:Str→Option Value} {base:Heap}
theorem Fun.ok {x qual:Str} {st:Stmt} {f:Addr} {fd:FuncData} {N ps:List Str} {k:Nat} {sp:Sp} (F:Fun K x qual st f fd) (S:FnScope N ps (qj st)) (len:∀ vs H Q E,sp vs H Q E→vs.length=ps.length)
  (hbody:∀ (cdv:Value) (A:Around) (outer:List Env) (s:Shared) (H:Hp) (vs:List V) (Q:VK) (E:XK),Room k (A.deeper (envOfC qual (qj st) s.heap.objs.size f cdv))→sp vs H Q E→
   ∃ t,PSs (j4 CX0 P w K mg base N qual (qj st) f cdv A outer s H E).nox (jU st) t∧t {nx:=fun _ H'=>Q .non H',rt:=Q} (Jb N vs) H):FnOk P w K mg base CX0 (k+1) f fd ps sp:=by
 obtain ⟨oc,od,kV,doc,pm,an,cdv,ct,osl,rfl,lk,hcd⟩:=F.ex;refine qfc lk hcd S len fun A outer s H vs Q E hr hsp=>?_;obtain ⟨t,h,q⟩:=hbody cdv A outer s H vs Q E hr hsp;exact ⟨t,h.nox,q⟩
theorem Fun.binds {x qual:Str} {st:Stmt} {f:Addr} {fd:FuncData} {ps:List Str} (F:Fun K x qual st f fd)
  (h:∀ (kV doc pm:Value) (an:Option Addr) (cdv ct:Value) (us:List Value),us.length=ps.length→bindArgs (PySem.W.fnOf x qual (vZ st) (jU st) (qj st) .none kV doc pm an cdv ct) ⟨us,[]⟩=pure (ps.zip us)):Jd K fd ps []:=by
 obtain ⟨oc,od,kV,doc,pm,an,cdv,ct,osl,rfl,lk,hcd⟩:=F.ex;exact .all (h kV doc pm an cdv ct)
theorem qe9 {x qual:Str} {st:Stmt} {f:Addr} {oc:Value} {od an:Option Addr} {osl:Array (Option Value)} {kV doc pm cdv ct:Value} (l:K.lookup f=some ⟨oc,od,.func (PySem.W.fnOf x qual (vZ st) (jU st) (qj st) .none kV doc pm an cdv ct),osl⟩)
  (c:PySem.W.codeIn K cdv qual=true) (k:PySem.W.keepIn K (.ref f)=true):Fun K x qual st f (PySem.W.fnOf x qual (vZ st) (jU st) (qj st) .none kV doc pm an cdv ct):=⟨⟨oc,od,kV,doc,pm,an,cdv,ct,osl,rfl,l,c⟩,k⟩
end
theorem yz {A:Around} {k:Nat} (hr:Room k A):A.units+1<cLine:=C4 (Nat.add_le_add_left (O0:1≤64) _) hr.units
section
variable {X:Cx}
theorem pv (i:Nat) {x:Str} {pos:Pos} (hN:X.N[i]?=some x:=by rfl) (hv:Vis X.env.scope x:=by first | exact Or.inl rfl | exact Or.inr (Or.inl rfl) | exact Or.inr (Or.inr rfl)) (hd:(x==("__debug__":Str))=false:=by decide)
  (hcd:(x==("__classdict__":Str))=false:=by decide):PE X (.Name x pos) (qg i):=qiu hN hv hd hcd
end
theorem ZW {A B:Prop} (h:B):if false=true then A else B:=by
 rw [if_neg Ag];exact h
theorem vB {A B:Prop} (h:A):if true=true then A else B:=by
 rw [if_pos rfl];exact h
theorem v1 {c A B:Prop} [Decidable c] (h1:c→A) (h2:¬ c→B):if c then A else B:=by
 by_cases h:c
 ·rw [if_pos h];exact h1 h
 ·rw [if_neg h];exact h2 h
def qw (H H':Hp):Prop:=∀ b o,H b=some o→H' b=some o
theorem qw.refl (H:Hp):qw H H:=fun _ _ h=>h
theorem qw.trans {H H1 H2:Hp} (a:qw H H1) (b:qw H1 H2):qw H H2:=fun c o h=>b c o (a c o h)
theorem qw.free {H H':Hp} (e:qw H H') {l:Addr} (h:H' l=Option.none):H l=Option.none:=by
 cases q:H l with
 | none=>rfl
 | some o=>
  rw [e l o q] at h;cases h
theorem qw.seq {K:Frag} {H H':Hp} {a:Addr} {xs:List V} (e:qw H H') (h:SqL K H a xs):SqL K H' a xs:=by
 rcases h with (h | ⟨o,h⟩) | h
 ·exact .inl (.inl (e _ _ h))
 ·exact .inl (.inr ⟨o,e _ _ h⟩)
 ·exact .inr h
section
variable {κ:Type} [DecidableEq κ]
def vj (kvs:List (κ×V)) (k:κ):Option V:=(kvs.find? fun kv=>decide (kv.1=k)).map (·.2)
def je (kvs:List (κ×V)) (k:κ) (v:V):List (κ×V):=
 if (kvs.any fun kv=>decide (kv.1=k))=true then kvs.map (fun kv=>if kv.1=k then (kv.1,v) else kv) else kvs++[(k,v)]
theorem Ji {p:κ×V} {r:List (κ×V)} {k:κ} (e:p.1=k):vj (p::r) k=some p.2:=by simp [vj,C1,e]
theorem jy {p:κ×V} {r:List (κ×V)} {k:κ} (e:¬ p.1=k):vj (p::r) k=vj r k:=by simp [vj,C1,e]
theorem vi (k:κ):∀ kvs:List (κ×V),(kvs.any fun kv=>decide (kv.1=k))=(vj kvs k).isSome
 | []=>rfl
 | p::r=>by
  rw [Cu]
  by_cases e:p.1=k
  ·simp only [Ji e,Ak e,Bool.true_or,Option.isSome_some]
  ·rw [jy e,As e,Bool.false_or];exact vi k r
theorem vA (kvs:List (κ×V)) (k:κ) (v:V):(je kvs k v).length≤kvs.length+1:=by
 unfold je;split
 ·rw [Ab];omega
 ·rw [Ac,Aj,Bj];omega
theorem vK.isSome_eq {o:Option V} {u:Option Value} (r:vK o u):o.isSome=u.isSome:=by
 cases o with
 | none=>cases u with
  | none=>rfl
  | some _=>exact (show False from r).elim
 | some _=>cases u with
  | none=>exact (show False from r).elim
  | some _=>rfl
theorem KV.val {kvs:List (κ×V)} {vs:List (κ×Value)} (r:KV kvs vs) (k:κ):vK (vj kvs k) (valueAt vs k):=by
 unfold KV at r
 induction r with
 | nil=>exact True.intro
 | @cons p q ps qs h t ih=>
  obtain ⟨h1,h2⟩:=h
  by_cases e:p.1=k
  ·have e':q.1=k:=h1.symm.trans e;have b:valueAt (q::qs) k=some q.2:=by simp [valueAt,C1,e']
   rw [Ji e,b];exact h2
  ·have e':¬ q.1=k:=fun z=>e (h1.trans z);have b:valueAt (q::qs) k=valueAt qs k:=by simp [valueAt,C1,e']
   rw [jy e,b];exact ih
theorem KV.any {kvs:List (κ×V)} {vs:List (κ×Value)} (r:KV kvs vs) (k:κ):(kvs.any fun kv=>decide (kv.1=k))=vs.any fun kv=>decide (kv.1=k):=by
 unfold KV at r
 induction r with
 | nil=>rfl
 | cons h t ih=>rw [Cu,Cu,ih,h.1]
theorem KV.repl {kvs:List (κ×V)} {vs:List (κ×Value)} (r:KV kvs vs) (k:κ) {y:V} {u:Value} (ry:qM y u):
  KV (kvs.map fun kv=>if kv.1=k then (kv.1,y) else kv) (vs.map fun kv=>if kv.1=k then (kv.1,u) else kv):=by
 unfold KV at r ⊢
 induction r with
 | nil=>exact .nil
 | @cons p q ps qs h t ih=>
  rw [Ba,Ba];refine .cons ?_ ih;obtain ⟨h1,h2⟩:=h
  by_cases e:p.1=k
  ·rw [if_pos e,if_pos (h1.symm.trans e)];exact ⟨h1,ry⟩
  ·rw [if_neg e,if_neg (fun z=>e (h1.trans z))];exact ⟨h1,h2⟩
theorem KV.put {kvs:List (κ×V)} {vs:List (κ×Value)} (r:KV kvs vs) (k:κ) {y:V} {u:Value} (ry:qM y u):KV (je kvs k y) (stored vs k u):=by
 unfold je stored;rw [r.any k]
 by_cases e:(vs.any fun kv=>decide (kv.1=k))=true
 ·rw [if_pos e,if_pos e];exact r.repl k ry
 ·rw [if_neg e,if_neg e];exact Paired.snoc r ⟨rfl,ry⟩
theorem KV.keys {kvs:List (κ×V)} {vs:List (κ×Value)} (r:KV kvs vs):kvs.map (·.1)=vs.map (·.1):=by
 unfold KV at r
 induction r with
 | nil=>rfl
 | cons h t ih=>rw [Ba,Ba,ih,h.1]
theorem KV.length {kvs:List (κ×V)} {vs:List (κ×Value)} (r:KV kvs vs):kvs.length=vs.length:=Ce r
end
theorem ZT {P:Program} {w:World} {k:Key} {u:Value} (r:qM (kV k) u):(ze P w).is k u=true:=by
 cases k with
 | inl i=>obtain ⟨t,e⟩:=(show ∃ t,u=Value.int i t from r);subst e;exact ZR P w i t
 | inr x=>obtain ⟨t,e⟩:=(show ∃ t,u=Value.str x t from r);subst e;exact Wf P w x t
theorem YV {P:Program} {w:World}:∀ {ks:List Key} {us:List Value},qP (ks.map kV) us→ItemsAre (ze P w) ks us
 | [],_,r=>by rw [Em] at r;cases r;exact .nil
 | k::ks,_,r=>by
  rw [Ba] at r;cases r with
  | cons h t=>exact .cons (ZT h) (YV t)
abbrev KT (H:Hp):List (List Key×V)→List (List Key×Addr×Value)→Prop:=Paired fun p q=>p.1=q.1∧H q.2.1=some (.tup (p.1.map kV))∧qM p.2 q.2.2
theorem KT.val {H:Hp} {kvs:List (List Key×V)} {xs:List (List Key×Addr×Value)} (r:KT H kvs xs) (k:List Key):vK (vj kvs k) ((atKey xs k).map (·.2)):=by
 induction r with
 | nil=>exact True.intro
 | @cons p q ps qs h t ih=>
  obtain ⟨h1,_,h2⟩:=h
  by_cases e:p.1=k
  ·have e':q.1=k:=h1.symm.trans e;have b:atKey (q::qs) k=some q.2:=by simp [atKey,C1,e']
   rw [Ji e,b];exact h2
  ·have e':¬ q.1=k:=fun z=>e (h1.trans z);have b:atKey (q::qs) k=atKey qs k:=by simp [atKey,C1,e']
   rw [jy e,b];exact ih
theorem KT.repl {H:Hp} {kvs:List (List Key×V)} {xs:List (List Key×Addr×Value)} (r:KT H kvs xs) (k:List Key) {y:V} {u:Value} (ry:qM y u):
  KT H (kvs.map fun kv=>if kv.1=k then (kv.1,y) else kv) (xs.map (putAt k u)):=by
 induction r with
 | nil=>exact .nil
 | @cons p q ps qs h t ih=>
  rw [Ba,Ba];refine .cons ?_ ih;obtain ⟨h1,h2,h3⟩:=h;unfold putAt
  by_cases e:p.1=k
  ·rw [if_pos e,if_pos (h1.symm.trans e)];exact ⟨h1,h2,ry⟩
  ·rw [if_neg e,if_neg (fun z=>e (h1.trans z))];exact ⟨h1,h2,h3⟩
theorem KT.put {H:Hp} {kvs:List (List Key×V)} {xs:List (List Key×Addr×Value)} (r:KT H kvs xs) (k:List Key) {b:Addr} {y:V} {u:Value} (hb:H b=some (.tup (k.map kV))) (ry:qM y u):
  KT H (je kvs k y) (storedH xs k b u):=by
 have e:(kvs.any fun kv=>decide (kv.1=k))=(atKey xs k).isSome:=by
  rw [vi,(r.val k).isSome_eq,Option.isSome_map]
 unfold je storedH;rw [e]
 by_cases q:(atKey xs k).isSome=true
 ·rw [if_pos q,if_pos q];exact r.repl k ry
 ·rw [if_neg q,if_neg q];exact Paired.snoc r ⟨rfl,hb,ry⟩
theorem KT.keeps {H H':Hp} {kvs:List (List Key×V)} {xs:List (List Key×Addr×Value)} (r:KT H kvs xs) (ht:∀ b ys,H b=some (.tup ys)→H' b=some (.tup ys)):KT H' kvs xs:=
 Paired.mapP r fun _ _ z=>⟨z.1,ht _ _ z.2.1,z.2.2⟩
section
variable {P:Program} {w:World} {H:Hp} {h:Heap} {a:Addr}
theorem qhv {u:HO} (ok:HOk P w H h) (e:Rd H a u):zd P w H h a u:=e.ok ok
theorem qbc {kvs:List (Key×V)} (ok:HOk P w H h) (e:Rd H a (.dK kvs)):kvs.length≤sizeLine∧(a==sysModules)=false∧∃ vs,KV kvs vs∧h.DictOf (ze P w) a vs:=
 show zd P w H h a (.dK kvs) from qhv ok e
theorem qh0 {kvs:List (Key×V)} (ok:HOk P w H h) (e:H a=some (.dK kvs)):kvs.length≤sizeLine∧(a==sysModules)=false∧∃ vs,KV kvs vs∧h.DictOf (ze P w) a vs:=qbc ok (.inl e)
theorem XE {ks:List Key} (ok:HOk P w H h) (e:H a=some (.tup (ks.map kV))):(tupleKind (ze P w)).is h ks a:=by
 obtain ⟨_,its,r,o,h1,h2,n,h3⟩:=(show zd P w H h a (.tup (ks.map kV)) from ok a _ e);exact ⟨o,its.toArray,n,h1,h2,h3,by simpa using YV r⟩
theorem qbb {kvs:List (List Key×V)} (ok:HOk P w H h) (e:Rd H a (.dT kvs)):kvs.length≤sizeLine∧(a==sysModules)=false∧
  ∃ xs,KT H kvs xs∧h.DictOfH (tupleKind (ze P w)) a xs:=by
 obtain ⟨z,y,xs,r,o,es,ep,h1,h2,h3,h4,h5⟩:=(show zd P w H h a (.dT kvs) from qhv ok e);refine ⟨z,y,xs,r,o,es,ep,h1,h2,h3,h4,fun x hx=>?_,h5⟩;have all:∀ {l:List (List Key×V)} {m:List (List Key×Addr×Value)},KT H l m→∀ x∈m,(tupleKind (ze P w)).is h x.1 x.2.1:=by
  intro l m q
  induction q with
  | nil=>intro x hx;exact nomatch hx
  | @cons p q ps qs hq t ih=>
   intro x hx;rcases Ap.mp hx with e | hx
   ·subst e;exact XE ok (by rw [← hq.1];exact hq.2.1)
   ·exact ih x hx
 exact all r x hx
theorem qla {kvs:List (List Key×V)} (ok:HOk P w H h) (e:H a=some (.dT kvs)):kvs.length≤sizeLine∧(a==sysModules)=false∧
  ∃ xs,KT H kvs xs∧h.DictOfH (tupleKind (ze P w)) a xs:=qbb ok (.inl e)
end
def j9 (H:Hp) (a:Addr) (y:V) (r:Option V):Prop:=
 (∃ kvs k,Rd H a (.dK kvs)∧y=kV k∧r=vj kvs k)∨∃ kvs k b,Rd H a (.dT kvs)∧y= .ref b∧H b=some (.tup (k.map kV))∧r=vj kvs k
def YD (H:Hp) (a:Addr) (y v:V) (H':Hp):Prop:=
 (∃ kvs k,H a=some (.dK kvs)∧y=kV k∧kvs.length<sizeLine∧H'=upd H a (.dK (je kvs k v)))∨
 ∃ kvs k b,H a=some (.dT kvs)∧y= .ref b∧H b=some (.tup (k.map kV))∧kvs.length<sizeLine∧H'=upd H a (.dT (je kvs k v))
theorem j9.k {H:Hp} {a:Addr} {kvs:List (Key×V)} {k:Key} (e:H a=some (.dK kvs)):j9 H a (kV k) (vj kvs k):= .inl ⟨kvs,k,.inl e,rfl,rfl⟩
theorem YD.k {H:Hp} {a:Addr} {kvs:List (Key×V)} {k:Key} {v:V} (e:H a=some (.dK kvs)) (hl:kvs.length<sizeLine):YD H a (kV k) v (upd H a (.dK (je kvs k v))):= .inl ⟨kvs,k,e,rfl,hl,rfl⟩
section
variable {X:Cx} {pins:List (Addr×Obj)} {σ:St} {H:Hp} {s:Shared} {a:Addr} {y v:V} {u r:Value} {o:Option V} {A:Around} {E:Value→Shared→Prop}
theorem Inv.big (I:Inv X pins σ H s):sysModules<s.heap.objs.size:=by
 have h:mainGlobals<s.heap.objs.size:=(I.mod.glob.keeps I.bk).lt;exact Nat.lt_trans O0 h
theorem qcy {Q:Value→Shared→Prop} (hu:A.units+1<cLine) (I:Inv X pins σ H s) (g:j9 H a y (some v)) (ry:qM y u) (h:∀ w' s',Inv X pins σ H s'→qM v w'→Q w' s'):
  wpAny (model X.prog X.w) A (getItem (.ref a) u) Q E s:=by
 rcases g with ⟨kvs,k,e,ey,l⟩ | ⟨kvs,k,b,e,ey,eb,l⟩
 ·subst ey;obtain ⟨z,hd,vs,rel,dd⟩:=qbc I.hok e;obtain ⟨w',hw,rw'⟩:=vK.some_of (v:=v) (o:=valueAt vs k) (by rw [l];exact rel.val k)
  exact wpAny_getItem_of (ZT ry) dd.mapOf hw (h w' _ (I.tok _) rw')
 ·subst ey;cases (show u=Value.ref b from ry);obtain ⟨z,hd,xs,rel,dd⟩:=qbb I.hok e;obtain ⟨w',hw,rw'⟩:=vK.some_of (v:=v) (o:=(atKey xs k).map (·.2)) (by rw [l];exact rel.val k)
  obtain ⟨p,hp,hp2⟩:=Option.map_eq_some_iff.mp hw;refine wpAny_getItem_heap (tupleKind_room_in1 hu) (XE I.hok eb) dd hp ?_;rw [hp2];exact h w' _ (I.tok _) rw'
theorem d_in {Q:Value→Shared→Prop} (hu:A.units+1<cLine) (I:Inv X pins σ H s) (g:j9 H a y o) (ry:qM y u) (h:∀ s',Inv X pins σ H s'→Q (.bool o.isSome) s'):
  wpAny (model X.prog X.w) A (compareOp .In u (.ref a)) Q E s:=by
 rcases g with ⟨kvs,k,e,ey,l⟩ | ⟨kvs,k,b,e,ey,eb,l⟩
 ·subst ey;obtain ⟨z,hd,vs,rel,dd⟩:=qbc I.hok e;refine wpAny_in_of (ZT ry) hd dd.mapOf ?_;rw [← (rel.val k).isSome_eq,← l];exact h _ (I.tok _)
 ·subst ey;cases (show u=Value.ref b from ry);obtain ⟨z,hd,xs,rel,dd⟩:=qbb I.hok e;refine wpAny_in_heap (tupleKind_room_in1 hu) (XE I.hok eb) hd dd ?_;have q:=(rel.val k).isSome_eq;rw [Option.isSome_map] at q;rw [← q,← l];exact h _ (I.tok _)
theorem XW {h':Heap} {t':Nat} {ob:HO} (I:Inv X pins σ H s) (mu:Mut (H a)) (hs:Heap.SameBut a s.heap h') (he:∃ q,h'.get? a=some q) (new:zd X.prog X.w (upd H a ob) h' a ob):
  Inv X pins σ (upd H a ob) {s with heap:=h',toks:=t'}:=
 I.write (x:=a) (e:=a) mu (.inl rfl) (fun b q hb z=>(hs.2 b hb).trans z) he new
theorem qfh {P:Program} {w:World} {H':Hp} {h':Heap} {kvs:List (Key×V)} {vs:List (Key×Value)} (z:kvs.length≤sizeLine) (hd:(a==sysModules)=false) (rel:KV kvs vs) (dd:h'.DictOf (ze P w) a vs):
  zd P w H' h' a (.dK kvs):=⟨z,hd,vs,rel,dd⟩
theorem qcx {H':Hp} {Q:Unit→Shared→Prop} (hu:A.units+1<cLine) (I:Inv X pins σ H s) (g:YD H a y v H') (ry:qM y u) (rv:qM v r) (h:∀ s',Inv X pins σ H' s'→Q () s'):
  wpAny (model X.prog X.w) A (setItem (.ref a) u r) Q E s:=by
 rcases g with ⟨kvs,k,e,ey,l,eH⟩ | ⟨kvs,k,b,e,ey,eb,l,eH⟩
 ·subst ey eH;obtain ⟨z,hd,vs,rel,dd⟩:=qh0 I.hok e;have hz:vs.length≤sizeLine:=by rw [← rel.length];exact z
  have hl:(je kvs k v).length≤sizeLine:=by have:=vA kvs k v;omega
  refine wpAny_setItem_pairs (hsz:=hz) (ZT ry) dd fun h' dd' hs=>h _ ?_;have he:∃ q,h'.get? a=some q:=let ⟨q,_,_,hq,_⟩:=dd';⟨q,hq⟩;exact XW I (by rw [e];exact True.intro) hs he (qfh hl hd (rel.put k rv) dd')
 ·subst ey eH;cases (show u=Value.ref b from ry);obtain ⟨z,hd,xs,rel,dd⟩:=qla I.hok e;have hz:xs.length≤sizeLine:=by rw [← Ce rel];exact z
  have hl:(je kvs k v).length≤sizeLine:=by have:=vA kvs k v;omega
  refine wpAny_setItem_heap (hsz:=hz) (tupleKind_room_in1 hu) (XE I.hok eb) dd fun h' dd' hs=>h _ ?_;obtain ⟨q,es,ep,hq,h2,h3,h4,_,h5⟩:=dd';refine XW I (by rw [e];exact True.intro) hs ⟨q,hq⟩ ⟨hl,hd,_,(rel.put k eb rv).keeps fun c ys ec=>?_,q,es,ep,hq,h2,h3,h4,h5⟩
  rw [qm (We ec e (fun z=>nomatch z))];exact ec
end
section
variable {X:Cx} {pins:List (Addr×Obj)} {σ:St} {H:Hp} {s:Shared} {a:Addr} {kvs:List (Key×V)} {k:Key} {u:Value} {A:Around} {E:Value→Shared→Prop}
end
def qhl (i:Expr):Prop:=∀ ov iv,subscripted i false ov iv=operate [ov,iv] (getItem ov iv)
theorem Xh {prog:Program} {w:World} {A:Around} {E:Value→Shared→Prop} {s:Shared} {env:Env} {value slice:Expr} {pos:Pos} {T id:String} {Q:Value→Shared→Prop}
  (hl:typeLookup (.type T) "__getitem__"=pure (some (.builtin id))) (hs:qhl slice)
  (h:wpAny (model prog w) A (eval value env) (fun o s₁=>wpAny (model prog w) A (eval slice env) (fun i s₂=>s₂.TypeIs o T∧wpAny (model prog w) A (getItem o i) Q E s₂) E s₁) E s):
  wpAny (model prog w) A (eval (.Subscript value slice pos) env) Q E s:=by
 refine Subscript_ (Bq h (fun o s₁ h₁=>Bq h₁ (fun i s₂ h₂=>?_) fun _ _ x=>x) fun _ _ x=>x);obtain ⟨hT,h₂⟩:=h₂;unfold subscriptTail;refine Aa ?_;rw [getitemInPython_of_ne hT.not_modules];refine Aa (Dk hT hl ?_);have fin:wpAny (model prog w) A (subscripted slice false o i) (fun r s₃=>wpAny (model prog w) A (letTemporaryGo value o r>>=fun _=>pure r) Q E s₃) E s₂:=by
  rw [hs o i];exact wpAny_operating (Bq h₂ (fun r s₃ h₃=>Aa (wpAny_letTemporaryGo (Ai h₃))) fun _ _ x=>x)
 first
  | exact Ai (Aa fin)
  | exact Aa (Ai (Aa fin))
  | exact Aa fin
theorem Z9 {X:Cx} {pins:List (Addr×Obj)} {σ:St} {H:Hp} {s:Shared} {a:Addr} {y:V} {o:Option V} (I:Inv X pins σ H s) (g:j9 H a y o):s.TypeIs (.ref a) "dict":=by
 rcases g with ⟨kvs,k,e,_,_⟩ | ⟨kvs,k,b,e,_,_,_⟩
 ·obtain ⟨_,_,vs,_,dd⟩:=qbc I.hok e;exact dd.typeIs
 ·obtain ⟨_,_,xs,_,dd⟩:=qbb I.hok e;exact dd.typeIs
def VO (td ty:TE):TE:=fun σ H Q=>td σ H fun x H1=>ty σ H1 fun y H2=>∃ a v,x= .ref a∧j9 H2 a y (some v)∧Q v H2
def qkb (ty td:TE):TE:=fun σ H Q=>ty σ H fun y H1=>td σ H1 fun x H2=>∃ a o,x= .ref a∧j9 H2 a y o∧Q (.bl o.isSome) H2
def YJ (td ty tv:TE):TS:=fun D σ H=>tv σ H fun v H1=>td σ H1 fun x H2=>ty σ H2 fun y H3=>∃ a H4,x= .ref a∧YD H3 a y v H4∧D.nx σ H4
section
variable {X:Cx} {o i e value:Expr} {pos pos' tpos:Pos} {td ty tv:TE}
theorem jp (hu:X.A.units+1<cLine) (ho:PE X o td) (hi:PE X i ty) (hs:qhl i):PE X (.Subscript o i pos) (VO td ty):=by
 intro pins s σ H Q I h;refine Xh PySem.F.slot_dict_getitem.lookup hs (thn (ho pins s σ H _ I h) fun u s1 ⟨x,H1,I1,rx,q1⟩=>thn (hi pins s1 σ H1 _ I1 q1) fun iv s2 ⟨y,H2,I2,ry,a,v,ex,g,q2⟩=>?_);subst ex;obtain rfl:u=Value.ref a:=rx;exact ⟨Z9 I2 g,qcy hu I2 g ry fun w' s3 I3 rw'=>⟨v,H2,I3,rw',q2⟩⟩
theorem qi0 (hu:X.A.units+1<cLine) (hi:PE X i ty) (ho:PE X o td):PC X .In i o (qkb ty td):=by
 intro pins s σ H Q I h;refine thn (hi pins s σ H _ I h) fun iv s1 ⟨y,H1,I1,ry,q1⟩=>thn (ho pins s1 σ H1 _ I1 q1) fun u s2 ⟨x,H2,I2,rx,a,ov,ex,g,q2⟩=>?_;subst ex;obtain rfl:u=Value.ref a:=rx;exact d_in hu I2 g ry fun s3 I3=>⟨.bl ov.isSome,H2,I3,rfl,q2⟩
theorem vP (hu:X.A.units+1<cLine) (ho:PE X o td) (hi:PE X i ty) (hv:PE X value tv) (hs:swapsWith value (some (.Subscript o i pos')) pos.line X.env=pure false):
  PS X (.Assign [.Subscript o i pos'] value pos) (YJ td ty tv):=by
 intro pins s σ H D I h;refine wpAny_Assign_Subscript (thn (hv pins s σ H _ I h) fun r s1 ⟨v,H1,I1,rv,q1⟩=>thn (ho pins s1 σ H1 _ I1 q1) fun u s2 ⟨x,H2,I2,rx,q2⟩=>thn (hi pins s2 σ H2 _ I2 q2) fun iv s3 ⟨y,H3,I3,ry,a,H4,ex,g,q3⟩=>?_) hs;subst ex;obtain rfl:u=Value.ref a:=rx;exact qcx hu I3 g ry rv fun s4 I4=>⟨σ,H4,I4,q3⟩
end
theorem Z8 {P:Program} {w:World} {H:Hp} (h:Heap) (hb:sysModules<h.objs.size):zd P w H (h.push {cls:= .type "dict",data:= .dict #[]}) h.objs.size (.dK []):=
 ⟨Bm _,Bc.mpr (Ne.symm (A8 hb)),[],.nil,Heap.DictOf.new h⟩
def Xd:TE:=fun _ H Q=>∀ p,H p=none→Q (.ref p) (upd H p (.dK []))
section
variable {X:Cx} {pos:Pos}
theorem yd:PE X (.Dict [] [] pos) Xd:=fun pins s σ H Q I h=>
 wpAny_Dict_empty ⟨.ref s.heap.objs.size,_,I.laid (a:=s.heap.objs.size) (o:= .dK []) (t':=s.toks) (fun _ _ q=>Af _ q) (Ah _) (Z8 s.heap I.big),rfl,h _ (I.hok.fresh (Ah _))⟩
end
def QA:List (TE×TE)→St→Hp→(List (V×V)→Hp→Prop)→Prop
 | [],_,H,Q=>Q [] H
 | (tk,tv)::r,σ,H,Q=>tk σ H fun x H1=>tv σ H1 fun y H2=>QA r σ H2 fun ps H3=>Q ((x,y)::ps) H3
abbrev VV:List (V×V)→List (Value×Value)→Prop:=Paired fun p q=>qM p.1 q.1∧qM p.2 q.2
def PPs (X:Cx) (pos:Pos) (keys:List (Option Expr)) (values:List Expr) (trs:List (TE×TE)):Prop:=
 ∀ (pins:List (Addr×Obj)) (s:Shared) (σ:St) (H:Hp) (Q:List (V×V)→Hp→Prop),Inv X pins σ H s→QA trs σ H Q→
  wpAny (model X.prog X.w) X.A (evalPairs (pairTrees keys values X.env pos)) (fun vs s'=>∃ ps H',Inv X pins σ H' s'∧VV ps vs∧Q ps H') X.xe s
theorem qgq {X:Cx} {pos:Pos}:PPs X pos [] [] []:=fun pins s σ H Q I h=>pairTrees_nil_walk ⟨[],H,I,.nil,h⟩
theorem VT {X:Cx} {pos:Pos} {k v:Expr} {ks:List (Option Expr)} {vs:List Expr} {tk tv:TE} {trs:List (TE×TE)} (hk:PE X k tk) (hv:PE X v tv) (hr:PPs X pos ks vs trs):
  PPs X pos (some k::ks) (v::vs) ((tk,tv)::trs):=fun pins s σ H Q I h=>
 pairTrees_cons_walk (thn (hk pins s σ H _ I h) fun u s1 ⟨x,H1,I1,rx,q1⟩=>thn (hv pins s1 σ H1 _ I1 q1) fun w2 s2 ⟨y,H2,I2,ry,q2⟩=>
  thn (hr pins s2 σ H2 _ I2 q2) fun ws s3 ⟨ps,H3,I3,rel,q3⟩=>⟨(x,y)::ps,H3,I3,.cons ⟨rx,ry⟩ rel,q3⟩)
def Vx (kvs more:List (Key×V)):List (Key×V):=more.foldl (fun acc kv=>je acc kv.1 kv.2) kvs
theorem KV.merge:∀ {more:List (Key×V)} {rs:List (Key×Value)} {kvs:List (Key×V)} {vs:List (Key×Value)},KV more rs→KV kvs vs→KV (Vx kvs more) (merged vs rs):=by
 intro more rs kvs vs r;unfold KV at r
 induction r generalizing kvs vs with
 | nil=>intro q;exact q
 | @cons p q ps qs h t ih=>
  intro r0;have e:KV (je kvs p.1 p.2) (stored vs q.1 q.2):=by
   have:=r0.put p.1 h.2;rw [← h.1];exact this
  exact ih e
theorem Ve:∀ (more kvs:List (Key×V)),(Vx kvs more).length≤kvs.length+more.length
 | [],kvs=>by show kvs.length≤kvs.length+0;omega
 | p::r,kvs=>by
  have h1:=Ve r (je kvs p.1 p.2);have h2:=vA kvs p.1 p.2;show (Vx (je kvs p.1 p.2) r).length≤_;rw [Aj];omega
theorem yQ {P:Program} {w:World}:∀ {kvs:List (Key×V)} {ws:List (Value×Value)},VV (kvs.map fun kv=>(kV kv.1,kv.2)) ws→∃ rs,Carries (ze P w) ws rs∧KV kvs rs
 | [],_,r=>by rw [Em] at r;cases r;exact ⟨[],True.intro,.nil⟩
 | p::kvs,_,r=>by
  rw [Ba] at r;cases r with
  | @cons a b as bs h t=>
   obtain ⟨rs,c,q⟩:=yQ (P:=P) (w:=w) t;obtain ⟨b1,b2⟩:=b;exact ⟨(p.1,b2)::rs,⟨ZT h.1,rfl,c⟩,.cons ⟨rfl,h.2⟩ q⟩
def qhr (trs:List (TE×TE)):TE:=fun σ H Q=>∀ p,H p=none→QA trs σ (upd H p (.dK [])) fun ps H2=>H2 p=some (.dK [])∧∃ kvs:List (Key×V),ps=kvs.map (fun kv=>(kV kv.1,kv.2))∧kvs.length≤15∧Q (.ref p) (upd H2 p (.dK (Vx [] kvs)))
theorem qgv {X:Cx} {pos:Pos} {keys:List (Option Expr)} {values:List Expr} {trs:List (TE×TE)} (h:PPs X pos keys values trs) (hall:keys.all (·.isSome)=true) (hl:keys.length=values.length) (h0:keys≠[])
  (h15:keys.length≤15):PE X (.Dict keys values pos) (qhr trs):=by
 intro pins s σ H Q I q;have hn:=I.hok.fresh (Ah s.heap.objs.size);have I1:=I.laid (a:=s.heap.objs.size) (o:= .dK []) (h':=s.heap.push {cls:= .type "dict",data:= .dict #[]}) (t':=s.toks) (fun _ _ q=>Af _ q) (Ah _) (Z8 s.heap I.big);refine wpAny_Dict_walk (knd:=ze X.prog X.w) hall hl h0 h15 (thn (h pins _ σ _ _ I1 (q _ hn)) fun ws s2 ⟨ps,H2,I2,rel,e,kvs,ep,lk,q2⟩=>?_);subst ep;obtain ⟨rs,c,rk⟩:=yQ (P:=X.prog) (w:=X.w) rel;obtain ⟨z,hd,vs0,r0,dd⟩:=qh0 I2.hok e;cases r0;refine ⟨rs,c,dd,fun h' dd' hs=>⟨.ref s.heap.objs.size,_,?_,rfl,q2⟩⟩;have hz:(Vx [] kvs).length≤sizeLine:=by
  have h1:=Ve kvs [];rw [Bj] at h1;rw [E4];omega
 have he:∃ q,h'.get? s.heap.objs.size=some q:=let ⟨q,_,_,hq,_⟩:=dd';⟨q,hq⟩;exact XW I2 (by rw [e];exact True.intro) hs he (qfh hz hd (rk.merge .nil) dd')
section
variable {X:Cx} {pins:List (Addr×Obj)} {σ:St} {H:Hp} {s:Shared} {a:Addr} {y d:V} {u r:Value} {o:Option V} {A:Around} {E:Value→Shared→Prop}
end
section
variable {X:Cx} {o e f:Expr} {apos cpos:Pos} {td ty tx:TE}
end
section
variable {X:Cx} {pins:List (Addr×Obj)} {σ:St} {H:Hp} {s:Shared} {a:Addr} {kvs:List (Key×V)} {A:Around} {E:Value→Shared→Prop}
end
section
variable {X:Cx} {pins:List (Addr×Obj)} {σ:St} {H:Hp} {s:Shared} {a:Addr} {y:V} {u:Value} {A:Around} {E:Value→Shared→Prop}
end
section
variable {X:Cx}
end
section
variable {κ:Type} [DecidableEq κ]
end
end L2
set_option maxHeartbeats 4000000
set_option maxRecDepth 100000
namespace L2
open PySem PySem.Spec PyProof.Rows
theorem Inv.track {X:Cx} {pins:List (Addr×Obj)} {σ:St} {H:Hp} {s:Shared} {D:Addr} {o:HO} (I:Inv X pins σ H s) (f:V5 X pins H D) (new:zd X.prog X.w (upd H D o) s.heap D o):Inv X pins σ (upd H D o) s:=by
 obtain ⟨f0,f1,f2,f3,f4,f5⟩:=f;show Inv X pins σ (upd H D o) {s with heap:=s.heap,gens:=s.gens,drawn:=s.drawn,toks:=s.toks}
 refine I.step (g':=s.gens) (d':=s.drawn) (t':=s.toks) (h':=s.heap) (ch:=[D]) (fun b hb=>?_) (fun b o _ _ _ e _=>e) (fun b o _ _ _ e _=>⟨o.slots,e⟩) (fun b ob hc e n=>?_) (fun b ob _ e=>⟨ob,e⟩)
  (fun b xs e=>?_) (fun b ob u e=>?_) (fun b ps e=>⟨#[],?_⟩) (fun m hm=>hm) (fun b u e=>?_) I.bare
 ·have z:b=D:=by simpa using hb
  subst z;exact ⟨f3,f1,f4,f5⟩
 ·rw [qm (fun z=>hc (by simp [z]))];exact n
 ·rw [qm (qx e f0)];exact e
 ·rw [qm (qx e f0)];exact e
 ·rw [qm (qx e f0),e];simp
 ·by_cases hb:b=D
  ·subst hb;rw [upd_same] at e;cases e;exact new
  ·rw [qm hb] at e;exact (I.hok b u e).stay (fun c v _ q=>q) (fun c q=>by rw [qm (qx q f0)];exact q) fun c xs q=>by rw [qm (qx q f0)];exact q
theorem vH {env:Env} {f:Str×NameKind→List (Str×Addr)→Sem (ForInStep (List (Str×Addr)))} (h1:∀ n k cs,k≠ .free→f (n,k) cs=pure (.yield cs))
  (h2:∀ n cs c,env.cells.lookup n=some c→f (n,.free) cs=pure (.yield ((n,c)::cs))):∀ (names:List (Str×NameKind)) (acc:List (Str×Addr)),(∀ y∈names,y.2= .free→∃ c,env.cells.lookup y.1=some c)→
   ∃ cl,forIn names acc f=pure cl∧(∀ x c,cl.lookup x=some c→acc.lookup x=some c∨env.cells.lookup x=some c)∧(∀ x,(acc.lookup x).isSome=true→(cl.lookup x).isSome=true)∧
    ∀ y∈names,y.2= .free→(cl.lookup y.1).isSome=true
 | [],acc,_=>⟨acc,rfl,fun x c e=> .inl e,fun x e=>e,fun y hy=>absurd hy (by simp)⟩
 | (n,k)::r,acc,h=>by
  have hr:∀ y∈r,y.2= .free→∃ c,env.cells.lookup y.1=some c:=fun y hy=>h y (Am _ hy)
  by_cases hk:k= .free
  ·subst hk;obtain ⟨c,hc⟩:=h (n,.free) Au rfl;obtain ⟨cl,e,a1,a2,a3⟩:=vH h1 h2 r ((n,c)::acc) hr;refine ⟨cl,by rw [Ew,h2 n acc c hc,pure_bind];exact e,fun x d hx=>?_,fun x hx=>a2 x ?_,fun y hy hf=>?_⟩
   ·rcases a1 x d hx with q | q
    ·rw [Bx] at q;cases z:x==n with
     | true=>
      rw [z] at q;have z':x=n:=by simpa using z
      subst z';cases q;exact .inr hc
     | false=>rw [z] at q;exact .inl q
    ·exact .inr q
   ·rw [Bx];cases x==n with
    | true=>rfl
    | false=>exact hx
   ·rcases Ap.mp hy with z | z
    ·subst z;refine a2 n ?_;rw [Bx];simp
    ·exact a3 y z hf
  ·obtain ⟨cl,e,a1,a2,a3⟩:=vH h1 h2 r acc hr;refine ⟨cl,by rw [Ew,h1 n k acc hk,pure_bind];exact e,a1,a2,fun y hy hf=>?_⟩
   rcases Ap.mp hy with z | z
   ·subst z;exact absurd hf hk
   ·exact a3 y z hf
theorem yP {scope:Scope} {env:Env} (h:∀ y∈scope.names,y.2= .free→∃ c,env.cells.lookup y.1=some c):
  ∃ cl,closureFor scope env=pure cl∧(∀ x c,cl.lookup x=some c→env.cells.lookup x=some c)∧∀ y∈scope.names,y.2= .free→∃ c,cl.lookup y.1=some c:=by
 obtain ⟨cl,e,a1,_,a3⟩:=vH (env:=env) (f:=fun x r=>if (x.2==NameKind.free)=true then (do let c ← cellOf env x.1;pure (ForInStep.yield ((x.1,c)::r))) else pure (ForInStep.yield r)) (fun n k cs hk=>by
  have z:(k==NameKind.free)=false:=by simpa using hk
  simp only [z,Bool.false_eq_true,if_false]) (fun n cs c hc=>by
  simp only [beq_self_eq_true,if_true,cellOf,hc,pure_bind]) scope.names [] h
 simp only [closureFor];refine ⟨cl,by rw [e,pure_bind],fun x c q=>?_,fun y hy hf=>D9.mp (a3 y hy hf)⟩
 rcases a1 x c q with z | z
 ·cases z
 ·exact z
theorem Xo {scope:Scope} {env:Env} {x:Str} (hcell:∀ y∈scope.names,y.2≠ .cell) (h:(relabel scope env).names.lookup x=some .cell∨(relabel scope env).names.lookup x=some .free):scope.names.lookup x=some .free:=by
 unfold relabel at h;dsimp only at h;generalize scope.names=l at h hcell
 induction l with
 | nil=>rcases h with h | h <;> cases h
 | cons y r ih=>
  obtain ⟨n,k⟩:=y;have hr:∀ y∈r,y.2≠ .cell:=fun y hy=>hcell y (Am _ hy);have hk:k≠ .cell:=hcell (n,k) Au;rw [Ba] at h;dsimp only at h;rw [Bx];cases hx:x==n with
  | true=>
   dsimp only
   by_cases hc:(k==NameKind.free&&env.scope.kind== .function&&env.kindOf n==some .cell)=true
   ·simp only [Ae,Ax] at hc;rw [hc.1.1]
   ·rw [if_neg hc,Bx,hx] at h;dsimp only at h;rcases h with h | h
    ·exact absurd (Be h) hk
    ·exact h
  | false=>
   dsimp only;refine ih ?_ hr
   by_cases hc:(k==NameKind.free&&env.scope.kind== .function&&env.kindOf n==some .cell)=true
   ·rw [if_pos hc,Bx,hx] at h;exact h
   ·rw [if_neg hc,Bx,hx] at h;exact h
theorem Xp {scope:Scope} {env:Env} {x:Str} (h:scope.names.lookup x=some .free):(relabel scope env).names.lookup x=some .cell∨(relabel scope env).names.lookup x=some .free:=by
 unfold relabel;dsimp only;generalize scope.names=l at h
 induction l with
 | nil=>cases h
 | cons y r ih=>
  obtain ⟨n,k⟩:=y;rw [Bx] at h;rw [Ba];dsimp only;cases hx:x==n with
  | true=>
   rw [hx] at h;have hk:k= .free:=Be h;subst hk
   by_cases hc:(NameKind.free==NameKind.free&&env.scope.kind== .function&&env.kindOf n==some .cell)=true
   ·rw [if_pos hc,Bx,hx];exact .inl rfl
   ·rw [if_neg hc,Bx,hx];exact .inr rfl
  | false=>
   rw [hx] at h
   by_cases hc:(k==NameKind.free&&env.scope.kind== .function&&env.kindOf n==some .cell)=true
   ·rw [if_pos hc,Bx,hx];exact ih h
   ·rw [if_neg hc,Bx,hx];exact ih h
theorem Vy {scope:Scope} {env:Env} {x:Str} (h:scope.names.lookup x=some .free):¬ (relabel scope env).names.lookup x=some .local:=fun e=>by
 rcases Xp (env:=env) h with q | q <;> (rw [e] at q;cases q)
def cxC (X:Cx) (scope:Scope) (cl:List (Str×Addr)) (C:Addr) (N:List Str) (fp:List Addr) (s:Shared) (H:Hp):Cx where
 prog:=X.prog
 w:=X.w
 K:=X.K
 mg:=X.mg
 base:=X.base
 A:=X.A
 N:=N
 s₀:=s
 H₀:=H
 env:=compEnvC scope cl C X.env
 outer:=X.stack
 stack:=X.stack
 ex:=fp
 fn:=fun _=>false
 calm:=X.calm
 pn:=[]
 xe:=fun _ _=>False
def jI (js:List (Option Nat)) (σ:St):St:=js.map fun j=>match j with
 | some i=>(σ[i]?).join
 | none=>none
structure CompScope (sc scope:Scope) (NX N:List Str) (js:List (Option Nat)):Prop where
 cell:∀ y∈scope.names,y.2≠ .cell
 kind:scope.kind= .function
 names:∀ y∈scope.names,y.2= .local→scope.names.lookup y.1=some .local
 free:∀ y∈scope.names,y.2= .free→sc.names.lookup y.1=some .cell∨sc.names.lookup y.1=some .free
 len:js.length=N.length
 out:∀ p∈js.zip N,∀ j∈p.1,NX[j]?=some p.2∧scope.names.lookup p.2=some .free
def PF (X:Cx) (ifs:List Expr) (t:TT):Prop:=
 ∀ (pins:List (Addr×Obj)) (s:Shared) (σ:St) (H:Hp) (Q:Bool→Hp→Prop),Inv X pins σ H s→t σ H Q→
  wpAny (model X.prog X.w) X.A (forIn ifs true fun c r=>if r=true then do let ok ← isTrue c X.env (eval c X.env);pure (ForInStep.yield ok) else pure (ForInStep.yield r)) (TP X pins σ Q) X.xe s
def Zl:TT:=fun _ H Q=>Q true H
theorem jE {X:Cx}:PF X [] Zl:=fun _ _ _ H _ I h=>by
 rw [List.forIn_nil];exact Ai ⟨H,I,h⟩
theorem QK {X:Cx} {c:Expr} {t:TT} (hc:PT X c t):PF X [c] t:=fun pins s σ H Q I h=>by
 rw [Ew];simp only [if_true];rw [bind_assoc];refine Aa (thn (hc pins s σ H Q I h) fun b s1 q=>?_);rw [pure_bind];dsimp only;rw [List.forIn_nil];exact Ai q
section
variable {prog:Program} {w:World} {A:Around} {R:Result→Shared→Prop} {s:Shared}
theorem XY {elt target iter:Expr} {ifs:List Expr} {scope:Scope} {pos:Pos} {it acc:Value} {env:Env} (I:Nat→Shared→Prop)
  (turn:∀ n s,I n s→wpAny (model prog w) A (pyNext it) (fun r s₁=>match r with
   | none=>R (.ok .next) s₁
   | some v=>wpAny (model prog w) A (letOwnedTupleGo target it v) (fun _ s₀=>wpAny (model prog w) A (assign target env v) (fun _ s₂=>
     wpAny (model prog w) A (forIn ifs true fun c r=>if r=true then do let ok ← isTrue c env (eval c env);pure (ForInStep.yield ok) else pure (ForInStep.yield r)) (fun ok s₃=>
      if ok=true then wpAny (model prog w) A (eval elt env) (fun x s₄=>
       wpAny (model prog w) A (call (.builtin "list.append") [acc,x]) (fun _ s₅=>∃ m,m<n∧I m s₅) (fun _ _=>False) s₄) (fun _ _=>False) s₃
      else ∃ m,m<n∧I m s₃) (fun _ _=>False) s₂) (fun _ _=>False) s₀) (fun _ _=>False) s₁) (fun _ _=>False) s)
  (n:Nat) (h:I n s):codeAny (model prog w) A (.compLoop (.ListComp elt [⟨target,iter,ifs,0⟩] scope pos) 0 it acc env) R s:=by
 refine codeAny_loop rfl I (fun n s hI=>?_) n h;show wpAny _ A ((compTurn (.ListComp elt [⟨target,iter,ifs,0⟩] scope pos) 0 it acc env).onRaise (fun x=>do noteFrame x env;theTreesLotGoes x)) _ _ s
 refine wpAny_noted ?_;rw [compTurn_list];refine Bq (E:=fun _ _=>False) ?_ (fun _ _ q=>q) fun _ _ f=>f.elim;refine Aa (Et (Aa (thn (turn n s hI) (fun r s₁ h₁=>?_))));cases r with
 | none=>exact Ai h₁
 | some v=>
  refine Aa (thn h₁ fun _ s₀ h₀=>?_);refine Aa (thn h₀ (fun _ s₂ h₂=>Aa (thn h₂ (fun ok s₃ h₃=>?_))));cases ok with
  | false=>exact Ai ⟨rfl,h₃⟩
  | true=>
   exact Aa (Aa (thn h₃ (fun x s₄ h₄=>Aa (thn h₄ (fun _ s₅ h₅=>Ai (Ai ⟨rfl,h₅⟩))))))
end
def qfs (js:List (Option Nat)) (g:TG):Prop:=∀ (σ:St) (x:V) (H:Hp) (Q:St→Hp→Prop),g x (jI js σ) H Q→
 g x (jI js σ) H fun σ3 H3=>(σ3.length=(jI js σ).length∧∀ (i:Nat) v,(jI js σ)[i]?=some (some v)→σ3[i]?=some (some v))∧Q σ3 H3
def Qv (J:It) (js:List (Option Nat)) (g:TG) (tt:TT) (te:TE) (σ:St) (H1:Hp) (Q:VK):Prop:=∃ W:Nat→Nat→List V→Hp→Prop,(∃ m,W 0 m [] H1)∧
 ∀ i m ys H',W i m ys H'→ys.length≤sizeLine∧((J.stop i H'∧∀ D,H' D=none→Q (.ref D) (upd H' D (.lst ys)))∨
  (J.go i H'∧∃ N:List V→Hp→Prop,(∀ ys H,N ys H→∃ m',m'<m∧W (i+1) m' ys H)∧
   ∀ x H2,J.yld i H' x H2→g x (jI js σ) H2 fun σ3 H3=>tt σ3 H3 fun ok H4=>if ok=true then te σ3 H4 fun y H5=>N (ys++[y]) H5 else N ys H4))
def vm (wi:TI) (js:List (Option Nat)) (g:TG) (tt:TT) (te:TE):TE:=fun σ H Q=>wi σ H fun J H1=>Qv J js g tt te σ H1 Q
theorem zG {J:It} {js:List (Option Nat)} {g:TG} {tt:TT} {te:TE} {σ:St} {H1:Hp} {Q:VK} (n:Nat) (Pv:Nat→List V→Hp→Prop) (h0:Pv 0 [] H1) (hl:∀ i ys H,Pv i ys H→ys.length≤i) (hz:n≤sizeLine)
  (hs:∀ i ys H,i<n→Pv i ys H→J.go i H∧∀ x H2,J.yld i H x H2→g x (jI js σ) H2 fun σ3 H3=>tt σ3 H3 fun ok H4=>if ok=true then te σ3 H4 fun y H5=>Pv (i+1) (ys++[y]) H5 else Pv (i+1) ys H4)
  (hd:∀ ys H,Pv n ys H→J.stop n H∧∀ D,H D=none→Q (.ref D) (upd H D (.lst ys))):Qv J js g tt te σ H1 Q:=by
 refine ⟨fun i m ys H=>m=n - i∧i≤n∧Pv i ys H,⟨n,by simp,Bm _,h0⟩,?_⟩
 rintro i m ys H ⟨rfl,hi,p⟩;refine ⟨Av (hl i ys H p) (Av hi hz),?_⟩
 by_cases hlt:i<n
 ·obtain ⟨a,b⟩:=hs i ys H hlt p;exact .inr ⟨a,Pv (i+1),fun ys' H' p'=>⟨n - (i+1),⋯,rfl,hlt,p'⟩,b⟩
 ·have e:i=n:=⋯;subst e;exact .inl (hd ys H p)
theorem zF {js:List (Option Nat)} {k:Nat} (h:js[k]?=some none):qfs js (qv k):=fun σ x H Q q=>by
 refine ⟨⟨by rw [Dy],fun i v e=>?_⟩,q⟩
 by_cases hik:k=i
 ·subst hik;unfold jI at e;rw [A0,h] at e;cases e
 ·rw [D7 hik];exact e
theorem Xs {K:Frag} {js:List (Option Nat)} {k l:Nat} (h:js[k]?=some none) (h':js[l]?=some none):qfs js (qe8 K 2 (yB (qv k) (yB (qv l) qhb))):=fun σ x H Q q=>by
 obtain ⟨a,xs,e1,e2,e3,v,r,rfl,v2,r2,rfl,rfl,q⟩:=q;have key:∀ {i:Nat} {z:V},(jI js σ)[i]?=some (some z)→i≠k∧i≠l:=fun {i z} e=>by
  unfold jI at e;rw [A0] at e;refine ⟨fun q=>?_,fun q=>?_⟩
  ·subst q;rw [h] at e;cases e
  ·subst q;rw [h'] at e;cases e
 refine ⟨a,_,e1,e2,e3,v,_,rfl,v2,_,rfl,rfl,⟨by rw [Dy,Dy],fun i z e=>?_⟩,q⟩
 obtain ⟨n1,n2⟩:=key e;rw [D7 (Ne.symm n2),D7 (Ne.symm n1)];exact e
section
variable {X:Cx} {sc scope:Scope} {NX N:List Str} {js:List (Option Nat)} {elt iter tg:Expr} {ifs:List Expr} {pos:Pos} {wi:TI} {g:TG} {tt:TT} {te:TE}
theorem Qf {pins:List (Addr×Obj)} {σ:St} {H2:Hp} {s2:Shared} {fp:List Addr} {cl:List (Str×Addr)} {h1:Heap} {tk:Nat} (hsc:X.env.scope=sc) (hNX:X.N=NX) (ok:CompScope sc scope NX N js) (I2:Inv X pins σ H2 s2)
  (cl1:∀ x c,cl.lookup x=some c→X.env.cells.lookup x=some c) (cl2:∀ y∈scope.names,y.2= .free→∃ c,cl.lookup y.1=some c) (f2:∀ b∈fp,V5 X pins H2 b) (hfp:∀ b∈fp,b<s2.heap.objs.size)
  {C:Addr} (hC:s2.heap.objs.size≤C) (old:∀ b o,s2.heap.get? b=some o→h1.get? b=some o) (hns:h1.Ns C fun _=>none):
  Inv (cxC X scope cl C N fp s2 H2) [] (jI js σ) H2 {s2 with heap:=h1,toks:=tk}:=by
 have cOld:∀ x c,X.env.cells.lookup x=some c→c<s2.heap.objs.size:=fun x c e=>by
  obtain ⟨v,z⟩:=I2.cell x c e;exact z.lt
 refine ⟨⟨I2.ok.mod,?_,I2.ok.glob,I2.ok.blt,hC,fun x y c e1 e2=>I2.ok.inj x y c (cl1 x c e1) (cl1 y c e2),fun x hx=>?_,fun x c hf _=>absurd hf Ag,I2.ok.hd,I2.ok.frames,.inl rfl,fun b hb=>⟨A8 (Bi (hfp b hb) hC),fun x c e=>(f2 b hb).2.2.2.2.1 x c (cl1 x c e)⟩,
  I2.bs,Av I2.ok.bsz I2.sz,fun b o e hb=>?_,fun b hb z=>?_,I2.stack,I2.stkFree⟩,rfl,I2.bare,Un.kept old,⟨_,hns,fun i x v e1 e2 e3=>?_⟩,fun x c e=>?_,I2.hok.fresh hC,fun x c e=>I2.freeC x c (cl1 x c e),fun p hp=>absurd (show p∈([]:List (Addr×Obj)) from hp) (by simp),I2.hok.kept old,?_⟩
 ·exact ok.kind
 ·have q:scope.names.lookup x=some .free:=Xo ok.cell hx;exact cl2 (x,.free) (Bk q) rfl
 ·rcases (f2 b hb).2.2.2.1 with z | z
  ·exact I2.ok.noex b o e z
  ·exact absurd (Bi (Al (I2.ok.bs b o e).1) z) (D1 _)
 ·rcases Ap.mp (I2.stkSub b z) with q | q
  ·exact (f2 b hb).2.1 q
  ·exact (f2 b hb).2.2.1 q
 ·have e1':N[i]?=some x:=e1;have e2':(jI js σ)[i]?=some (some v):=e2;unfold jI at e2';rw [A0] at e2';cases hj:js[i]? with
  | none=>rw [hj] at e2';cases e2'
  | some oj=>
   rw [hj] at e2';cases oj with
   | none=>cases e2'
   | some j=>
    have e4:(σ[j]?).join=some v:=Be e2';have e5:σ[j]?=some (some v):=by
     cases z:σ[j]? with
     | none=>rw [z] at e4;cases e4
     | some ov=>
      rw [z] at e4;have e6:ov=some v:=e4;rw [e6]
    have hz:(some j,x)∈js.zip N:=by
     refine A9 (i:=i) ?_;rw [D6];exact ⟨hj,e1'⟩
    obtain ⟨q1,q2⟩:=ok.out _ hz j rfl;have q3:=ok.free (x,.free) (Bk q2) rfl;rw [← hsc] at q3;obtain ⟨m,hn,hl⟩:=I2.loc;obtain ⟨u,r,l⟩:=hl j x v (by rw [hNX];exact q1) e5 (.inr q3)
    refine ⟨u,r,.inr ?_⟩;rcases l with ⟨k,_⟩ | ⟨_,c,hc,hcell⟩
    ·have k':X.env.scope.names.lookup x=some .local:=k;rcases q3 with q3 | q3 <;> (rw [k'] at q3;cases q3)
    ·obtain ⟨c',hc'⟩:=cl2 (x,.free) (Bk q2) rfl;have ec:=cl1 x c' hc';rw [hc] at ec;cases ec;refine ⟨?_,c,hc',?_⟩
     ·have e3':Vis (relabel scope X.env) x:=e3;rcases e3' with e3' | e3' | e3'
      ·have:=Vy q2 (env:=X.env);exact absurd e3' this
      ·exact .inl e3'
      ·exact .inr e3'
     ·obtain ⟨o,ho,hd⟩:=hcell;exact ⟨o,old _ _ ho,hd⟩
 ·obtain ⟨v,o,ho,hd⟩:=I2.cell x c (cl1 x c e);exact ⟨v,o,old _ _ ho,hd⟩
 ·show (jI js σ).length=N.length;unfold jI;rw [Ab,ok.len]
theorem Y3 {pins:List (Addr×Obj)} {σ:St} {H2:Hp} {s2:Shared} {it:Addr} {fp:List Addr} {tn:Nat→Heap→Prop} {J:It} {cl:List (Str×Addr)} {Q:VK} {E:Value→Shared→Prop} {RR:Value→Addr→Result→Shared→Prop}
  (hsc:X.env.scope=sc) (hNX:X.N=NX) (ok:CompScope sc scope NX N js) (hc:X.calm=true) (I2:Inv X pins σ H2 s2)
  (cl1:∀ x c,cl.lookup x=some c→X.env.cells.lookup x=some c) (cl2:∀ y∈scope.names,y.2= .free→∃ c,cl.lookup y.1=some c)
  (T:Turn X.prog X.w X.K tg J fp it tn) (st2:tn 0 s2.heap) (f2:∀ b∈fp,V5 X pins H2 b)
  (hg:∀ C,PG (cxC X scope cl C N fp s2 H2) tg g) (ht:∀ C,PF (cxC X scope cl C N fp s2 H2) ifs tt) (he:∀ C,PE (cxC X scope cl C N fp s2 H2) elt te)
  (own:qfs js g) {W:Nat→Nat→List V→Hp→Prop} {m0:Nat} (w0:W 0 m0 [] H2)
  (turn:∀ i m ys H',W i m ys H'→ys.length≤sizeLine∧((J.stop i H'∧∀ D,H' D=none→Q (.ref D) (upd H' D (.lst ys)))∨
   (J.go i H'∧∃ N:List V→Hp→Prop,(∀ ys H,N ys H→∃ m',m'<m∧W (i+1) m' ys H)∧
    ∀ x H2,J.yld i H' x H2→g x (jI js σ) H2 fun σ3 H3=>tt σ3 H3 fun ok H4=>if ok=true then te σ3 H4 fun y H5=>N (ys++[y]) H5 else N ys H4)))
  (fin:∀ D C m s' Hf,Inv X pins σ Hf s'→s'.heap.Ns C m→V5 X pins Hf C→Q (.ref D) Hf→RR (.ref D) C (.ok .next) s'):
  wpAny (model X.prog X.w) X.A (newList []) (fun acc s₃=>wpAny (model X.prog X.w) X.A (newFunctionEnv scope X.env.globals cl [] X.env.qual none .none (some X.env)) (fun cenv s₄=>
   codeAny (model X.prog X.w) X.A (.compStart (.ListComp elt [⟨tg,iter,ifs,0⟩] scope pos) 0 (.ref it) acc {cenv with scope:=relabel scope X.env}) (RR acc cenv.locals) s₄) E s₃) E s2:=by
 refine Cj (wpAny_newFunctionEnv ok.cell (by intro y hy;simp at hy) (fun h₁ hns₁ hsb₁=>?_) ok.kind)
 dsimp only at hns₁ hsb₁ ⊢;generalize hHH:s2.heap.push {cls:= .type "list",dict:=none,data:= .seq ([]:List Value).toArray}=HH at hns₁ hsb₁ ⊢;have hCe:HH.objs.size=s2.heap.objs.size+1:=by rw [← hHH,Cy]
 obtain ⟨D,hD⟩:∃ D:Nat,D=s2.heap.objs.size:=⟨_,rfl⟩;obtain ⟨C,hC⟩:∃ C:Nat,C=HH.objs.size:=⟨_,rfl⟩;rw [← hC] at hCe hns₁ hsb₁ ⊢;rw [← hD] at hCe ⊢;have hDC:D≠C:=⋯;have hCle:s2.heap.objs.size≤C:=⋯;have hfp:∀ b∈fp,b<s2.heap.objs.size:=fun b hb=>by
  obtain ⟨o,e,_⟩:=T.obj 0 _ st2 b hb;exact Al e
 have old:∀ b o,s2.heap.get? b=some o→h₁.get? b=some o:=fun b o e=>hsb₁.extBut b o (A8 (Bi (Al e) hCle)) (Af _ (hHH▸Af _ e));have hacc:h₁.PlainList D #[]:=⟨_,hsb₁.extBut _ _ hDC (Af _ (by rw [← hHH,hD];exact Aw _ rfl))⟩
 have hns:h₁.Ns C fun _=>none:=hns₁;have I4:Inv (cxC X scope cl C N fp s2 H2) [] (jI js σ) H2 {s2 with heap:=h₁,toks:=s2.toks+([]:List (Str×Value)).length}:=
  Qf hsc hNX ok I2 cl1 cl2 f2 hfp ⋯ old hns
 have st4:tn 0 h₁:=T.keep 0 _ _ st2 fun b _ o e=>old b o e;have cOld:∀ x c,X.env.cells.lookup x=some c→c<s2.heap.objs.size:=fun x c e=>by
  obtain ⟨v,z⟩:=I2.cell x c e;exact z.lt
 have nDfp:D∉fp:=fun z=>absurd (hfp D z) (by rw [hD];exact D1 _)
 have stat:∀ {pl:List (Addr×Obj)} {H':Hp},(∀ b∈fp,H' b=none)→(∀ p∈pl,p.1∉fp)→∀ b∈fp,V5 (cxC X scope cl C N fp s2 H2) pl H' b:=fun {pl H'} hn hp b hb=>by
  refine ⟨hn b hb,(I4.ok.exf b hb).1,I4.ok.exfs b hb,.inl hb,(I4.ok.exf b hb).2,fun p hpp z=>?_⟩;exact hp p (by simpa [cxC] using hpp) (z▸hb)
 have fpD:∀ {H':Hp},H' D=none→V5 (cxC X scope cl C N fp s2 H2) [] H' D:=fun {H'} hn=>by
  refine ⟨hn,hDC,fun z=>?_,.inr (by show s2.heap.objs.size≤D;omega),fun x c e=>?_,fun p hpp=>absurd (show p∈([]:List (Addr×Obj)) from hpp) (by simp)⟩
  ·obtain ⟨_,o,ho,_⟩:=I4.ok.funs.mem z;exact absurd (show D<s2.heap.objs.size from Al ho) (by rw [hD];exact D1 _)
  ·exact A8 (by rw [hD];exact cOld x c (cl1 x c e))
 refine (fun loop=>codeAny_compStart_list (loop _ rfl) (T.self X.A 0 _ _ _ st4 (loop _ rfl))) (fun s₃ (hs₃:s₃={s2 with heap:=h₁,toks:=s2.toks+([]:List (Str×Value)).length})=>?_)
 subst hs₃;refine XY (env:=compEnvC scope cl C X.env) (fun n s'=>∃ i ys its H',Inv (cxC X scope cl C N fp s2 H2) [] (jI js σ) H' s'∧tn i s'.heap∧(∀ b∈fp,H' b=none)∧s'.heap.PlainList D its∧qP ys its.toList∧H' D=none∧W i n ys H')
  ?_ m0 ⟨0,[],#[],H2,I4,st4,fun b hb=>(f2 b hb).1,hacc,.nil,I2.hok.fresh ⋯,w0⟩
 rintro n s5 ⟨i,ys,its,H5,I5,st5,fr5,⟨k5,pl5⟩,vl5,hD5,w5⟩;obtain ⟨hz,tr⟩:=turn i n ys H5 w5;have hz':its.size≤sizeLine:=by
  have:=vl5.length;have e4:its.toList.length=its.size:=by simp
  omega
 have I5':Inv (cxC X scope cl C N fp s2 H2) [(D,{cls:= .type "list",data:= .seq its k5})] (jI js σ) H5 s5:=I5.pins_of fun p hp=>by
  have e:p=(D,{cls:= .type "list",data:= .seq its k5}):=by simpa using hp
  subst e;exact ⟨pl5,hD5,hDC,(fpD hD5).2.2.1,fun v z=>by cases z⟩
 have np:∀ p∈[(D,({cls:= .type "list",data:= .seq its k5}:Obj))],p.1∉fp:=fun p hp=>by
  have e:p=(D,{cls:= .type "list",data:= .seq its k5}):=by simpa using hp
  subst e;exact nDfp
 rcases tr with ⟨stop,qn⟩ | ⟨go,N',hN,step⟩
 ·refine thn (T.done (cxC X scope cl C N fp s2 H2) rfl rfl rfl hc i _ s5 (jI js σ) H5 (fun _ _=>False) I5' (stat fr5 np) st5 stop) fun r s6 ⟨hr,I6⟩=>?_;subst hr;have pD:=(I6.pin _ (Bh _ Au)).1;have I6':Inv (cxC X scope cl C N fp s2 H2) [] (jI js σ) H5 s6:=I6.pins_of fun p hp=>absurd hp (by simp)
  have I7:Inv (cxC X scope cl C N fp s2 H2) [] (jI js σ) (upd H5 D (.lst ys)) s6:=I6'.track (fpD hD5) ⟨hz,its.toList,k5,vl5,by simpa using pD⟩
  obtain ⟨m,hn,_⟩:=I7.loc;have hfC:upd H5 D (.lst ys) C=none:=I7.free;refine fin D C m s6 (upd H5 D (.lst ys)) ?_ hn (I2.fpOk ⋯ hfC) (qn D hD5);exact I2.call' (ch:=fp) I7.os I7.base I7.hok I7.bare fun b hb=>⟨(f2 b hb).2.2.2.1,(f2 b hb).2.1,(f2 b hb).2.2.2.2.1,(f2 b hb).2.2.2.2.2⟩
 ·refine thn (T.item (cxC X scope cl C N fp s2 H2) rfl rfl rfl hc i _ s5 (jI js σ) H5 (fun _ _=>False) I5' (stat fr5 np) st5 go) fun r s6 ⟨u,hr,h6⟩=>?_;subst hr;refine thn h6 fun _ s7 ⟨x,H7,I7,r7,y7,st7,fr7⟩=>?_;have I7':=I7.pinned (stat fr7 np) (T.obj _ _ st7);have q7:=own σ x H7 _ (step x H7 y7);refine thn (hg C _ s7 (jI js σ) H7 x u _ I7' r7 q7) fun _ s8 ⟨σ8,H8,I8,ag8,q8⟩=>?_;have keepD:∀ {σ9:St} {H9:Hp} {s9:Shared},Inv (cxC X scope cl C N fp s2 H2) ([(D,{cls:= .type "list",data:= .seq its k5})]++Vq fp s7.heap) σ9 H9 s9→s9.heap.get? D=some {cls:= .type "list",data:= .seq its k5}∧H9 D=none:=fun I9=>by
   obtain ⟨a,b,_⟩:=I9.pin _ (Bh _ (B7 _ Au));exact ⟨a,b⟩
  have keepF:∀ {σ9:St} {H9:Hp} {s9:Shared},Inv (cxC X scope cl C N fp s2 H2) ([(D,{cls:= .type "list",data:= .seq its k5})]++Vq fp s7.heap) σ9 H9 s9→tn (i+1) s9.heap∧∀ b∈fp,H9 b=none:=fun I9=>by
   refine ⟨T.keep _ _ _ st7 fun b hb o e=>(I9.pin (b,o) (Bh _ (Bh _ (J7 hb e)))).1,fun b hb=>?_⟩;obtain ⟨o,e,d⟩:=T.obj _ _ st7 b hb;exact (I9.pin (b,o) (Bh _ (Bh _ (J7 hb e)))).2.1
  refine thn (ht C _ s8 σ8 H8 _ I8 q8) fun okb s9 ⟨H9,I9,q9⟩=>?_;have again:∀ {H10:Hp} {s10:Shared},Inv (cxC X scope cl C N fp s2 H2) ([(D,{cls:= .type "list",data:= .seq its k5})]++Vq fp s7.heap) σ8 H10 s10→Inv (cxC X scope cl C N fp s2 H2) [] (jI js σ) H10 s10:=fun I=>(I.pins_of fun p hp=>absurd hp (by simp)).weak ag8.1.symm ag8.2
  cases okb with
  | false=>
   have q9':N' ys H9:=q9;obtain ⟨m',hm,w9⟩:=hN _ _ q9';show ∃ m,m<n∧_;exact ⟨m',hm,i+1,ys,its,H9,again I9,(keepF I9).1,(keepF I9).2,⟨k5,(keepD I9).1⟩,vl5,(keepD I9).2,w9⟩
  | true=>
   have q9':te σ8 H9 fun y H5=>N' (ys++[y]) H5:=q9;show wpAny _ _ (eval elt (compEnvC scope cl C X.env)) _ _ s9;refine thn (he C _ s9 σ8 H9 _ I9 q9') fun yv s10 ⟨y,H10,I10,r10,q10⟩=>?_;obtain ⟨m',hm,w10⟩:=hN _ _ q10;refine wpAny_list_append_plain (hsz:=hz') ⟨k5,(keepD I10).1⟩ fun h' hl' hs'=>?_;refine ⟨m',hm,i+1,ys++[y],its.push yv,H10,?_,?_,(keepF I10).2,hl',?_,(keepD I10).2,w10⟩
   ·obtain ⟨g0,g1,g2,g3,g4,g5⟩:=fpD (keepD I10).2;exact (again I10).turned (t':=s10.toks) (fun b o hb e=>(hs'.2 b hb).trans e) g0 g1 g3 g4 g5
   ·exact T.keep _ _ _ (keepF I10).1 fun b hb o e=>(hs'.2 b (fun z=>nDfp (z▸hb))).trans e
   ·rw [Array.toList_push];exact vl5.append (.cons r10 .nil)
theorem jk (hi:PI X tg iter wi) (hg:∀ cl C fp s H,PG (cxC X scope cl C N fp s H) tg g) (ht:∀ cl C fp s H,PF (cxC X scope cl C N fp s H) ifs tt) (he:∀ cl C fp s H,PE (cxC X scope cl C N fp s H) elt te)
  (own:qfs js g) (ok:CompScope sc scope NX N js) (hsc:X.env.scope=sc:=by rfl) (hNX:X.N=NX:=by rfl) (hc:X.calm=true:=by rfl) (hs:∀ x,foldedSetIterable iter X.env x=pure x:=by intro _;rfl):
  PE X (.ListComp elt [⟨tg,iter,ifs,0⟩] scope pos) (vm wi js g tt te):=by
 intro pins s σ H Q I h;rw [eval_ListComp];obtain ⟨cl,hclos,cl1,cl2⟩:=yP (scope:=scope) (env:=X.env) fun y hy hf=>I.ok.has y.1 (by
  have q:=ok.free y hy hf;rw [← hsc] at q;exact q)
 refine wpAny_comprehension_free (use:=none) rfl hs hclos ok.kind ok.names (thn (hi pins s σ H _ I h) fun xv s1 h1=>thn h1 fun itv s2 h2=>?_);obtain ⟨it,fp,tn,J,H2,rfl,I2,T,st2,f2,W,⟨m0,w0⟩,turn⟩:=h2;refine Y3 (RR:=fun acc C=>compPost (model X.prog X.w) X.A X.xe none (EP X pins σ Q) acc C) hsc hNX ok hc I2 cl1 cl2 T st2 f2 (fun C=>hg cl C fp s2 H2) (fun C=>ht cl C fp s2 H2) (fun C=>he cl C fp s2 H2) own w0 turn fun D C m s' Hf I' hn f q=>?_;obtain ⟨g0,g1,g2,g3,g4,g5⟩:=f;exact ⟨m,hn,fun h' hs'=>⟨.ref D,Hf,I'.turned (t':=s'.toks) (fun b o hb e=>(hs'.2 b hb).trans e) g0 g1 g3 g4 g5,rfl,q⟩⟩
end
mutual
inductive Rep (K:Frag) (H:Hp):V→PyData→Prop
 | non:Rep K H .non .none
 | bl (b:Bool):Rep K H (.bl b) (.bool b)
 | int (i:Int):Rep K H (.int i) (.int i)
 | str (x:Str):Rep K H (.str x) (.str x)
 | lst {a:Addr} {xs:List V} {ds:List PyData}:SqL K H a xs→Reps K H xs ds→Rep K H (.ref a) (.list ds)
 | tup {a:Addr} {xs:List V} {ds:List PyData}:SqT K H a xs→Reps K H xs ds→Rep K H (.ref a) (.tuple ds)
inductive Reps (K:Frag) (H:Hp):List V→List PyData→Prop
 | nil:Reps K H [] []
 | cons {x:V} {xs:List V} {d:PyData} {ds:List PyData}:Rep K H x d→Reps K H xs ds→Reps K H (x::xs) (d::ds)
end
section
variable {X:Cx} {pins:List (Addr×Obj)} {σ:St} {H H':Hp} {s:Shared} {K:Frag}
mutual
theorem Rep.reads (I:Inv X pins σ H s):∀ {x:V} {d:PyData} {v:Value},Rep X.K H x d→qM x v→∃ as,Reads s.heap v d as
 | _,_,_,.non,r=>by cases (show _=Value.none from r);exact ⟨_,.none⟩
 | _,_,_,.bl b,r=>by cases (show _=Value.bool b from r);exact ⟨_,.bool b⟩
 | _,_,_,.int i,r=>by
  obtain ⟨t,rfl⟩:=(show ∃ t,_=Value.int i t from r);exact ⟨_,.int i t⟩
 | _,_,_,.str x,r=>by
  obtain ⟨t,rfl⟩:=(show ∃ t,_=Value.str x t from r);exact ⟨_,.str x t⟩
 | _,_,_,.lst (a:=a) h q,r=>by
  cases (show _=Value.ref a from r);obtain ⟨its,rv,⟨o,n,e,c,_,d⟩,_⟩:=I.list h;obtain ⟨as,z⟩:=Reps.reads I q rv;exact ⟨_,.list e c d (by simpa using z)⟩
 | _,_,_,.tup (a:=a) h q,r=>by
  cases (show _=Value.ref a from r);obtain ⟨its,rv,⟨o,e,c,n,d⟩,_⟩:=I.tuple h;obtain ⟨as,z⟩:=Reps.reads I q rv;exact ⟨_,.tuple e c d (by simpa using z)⟩
theorem Reps.reads (I:Inv X pins σ H s):∀ {xs:List V} {ds:List PyData} {vs:List Value},Reps X.K H xs ds→qP xs vs→∃ as,ReadsAll s.heap vs ds as
 | _,_,_,.nil,.nil=>⟨_,.nil⟩
 | _,_,_,.cons h q,.cons r rr=>by
  obtain ⟨as,z⟩:=Rep.reads I h r;obtain ⟨bs,y⟩:=Reps.reads I q rr;exact ⟨_,.cons z y⟩
end
theorem qw.sqT (g:qw H H') {a:Addr} {xs:List V} (h:SqT K H a xs):SqT K H' a xs:=by
 rcases h with (h | ⟨o,h⟩) | h
 ·exact .inl (.inl (g _ _ h))
 ·exact .inl (.inr ⟨o,g _ _ h⟩)
 ·exact .inr h
mutual
theorem Rep.mono (gL:∀ {a:Addr} {xs:List V},SqL K H a xs→SqL K H' a xs) (gT:∀ {a:Addr} {xs:List V},SqT K H a xs→SqT K H' a xs):∀ {x:V} {d:PyData},Rep K H x d→Rep K H' x d
 | _,_,.non=> .non
 | _,_,.bl b=> .bl b
 | _,_,.int i=> .int i
 | _,_,.str x=> .str x
 | _,_,.lst h q=> .lst (gL h) (Reps.mono gL gT q)
 | _,_,.tup h q=> .tup (gT h) (Reps.mono gL gT q)
theorem Reps.mono (gL:∀ {a:Addr} {xs:List V},SqL K H a xs→SqL K H' a xs) (gT:∀ {a:Addr} {xs:List V},SqT K H a xs→SqT K H' a xs):∀ {xs:List V} {ds:List PyData},Reps K H xs ds→Reps K H' xs ds
 | _,_,.nil=> .nil
 | _,_,.cons h q=> .cons (Rep.mono gL gT h) (Reps.mono gL gT q)
end
theorem Rep.same (g:qw H H') {x:V} {d:PyData} (h:Rep K H x d):Rep K H' x d:=h.mono g.seq g.sqT
theorem Reps.same (g:qw H H') {xs:List V} {ds:List PyData} (h:Reps K H xs ds):Reps K H' xs ds:=h.mono g.seq g.sqT
theorem Reps.length:∀ {xs:List V} {ds:List PyData},Reps K H xs ds→xs.length=ds.length
 | _,_,.nil=>rfl
 | _,_,.cons _ q=>by rw [Aj,Aj,Reps.length q]
theorem Reps.append:∀ {xs ys:List V} {ds es:List PyData},Reps K H xs ds→Reps K H ys es→Reps K H (xs++ys) (ds++es)
 | _,_,_,_,.nil,q=>q
 | _,_,_,_,.cons h p,q=> .cons h (Reps.append p q)
theorem Reps.get:∀ {xs:List V} {ds:List PyData} {i:Nat} {x:V},Reps K H xs ds→xs[i]?=some x→∃ d,ds[i]?=some d∧Rep K H x d
 | _,_,_,_,.nil,e=>by simp at e
 | _,_,0,_,.cons r _,e=>by simp at e;subst e;exact ⟨_,rfl,r⟩
 | _,_,i+1,x,.cons _ t,e=>by
  obtain ⟨d,h1,h2⟩:=Reps.get (i:=i) (x:=x) t (by simpa using e)
  exact ⟨d,by simpa using h1,h2⟩
theorem Reps.strs:∀ xs:List Str,Reps K H (xs.map V.str) (xs.map PyData.str)
 | []=> .nil
 | b::r=> .cons (.str b) (Reps.strs r)
def qgg (K:Frag):R2:=fun x y H Q=>∃ d e,Rep K H x d∧Rep K H y e∧SeqAt.shaped d=true∧SeqAt.shaped e=true∧Q (.bl (PyData.eqv d e)) H
def qgf (K:Frag):R2:=fun x y H Q=>∃ d e,Rep K H x d∧Rep K H y e∧SeqAt.shaped d=true∧SeqAt.shaped e=true∧Q (.bl (!PyData.eqv d e)) H
theorem qi4 (hu:X.A.units+64<cLine):OpR X (compareOp .Eq) (qgg X.K):=by
 intro pins s σ H x y v u Q I rx ry h;obtain ⟨d,e,h1,h2,z1,z2,q⟩:=h;obtain ⟨as,ra⟩:=h1.reads I rx;obtain ⟨bs,rb⟩:=h2.reads I ry;exact eq_dataH ra rb z1 z2 hu (qS I q rfl)
theorem qi3 (hu:X.A.units+64<cLine):OpR X (compareOp .NotEq) (qgf X.K):=by
 intro pins s σ H x y v u Q I rx ry h;obtain ⟨d,e,h1,h2,z1,z2,q⟩:=h;obtain ⟨as,ra⟩:=h1.reads I rx;obtain ⟨bs,rb⟩:=h2.reads I ry;exact ne_dataH ra rb z1 z2 hu (qS I q rfl)
end
section
variable {X:Cx} {tg:Expr}
theorem YO:OpR X (compareOp .LtE) (fun x y H Q=>∃ i j,x= .str i∧y= .str j∧Q (.bl (!decide (j.cps.toList<i.cps.toList))) H):=by
 intro pins s σ H x y v u Q I rx ry h;obtain ⟨i,j,rfl,rfl,q⟩:=h;obtain ⟨t,rfl⟩:=rx;obtain ⟨t',rfl⟩:=ry;exact PySem.P.le_str (qS I q rfl)
def Its (x:Str):It:=⟨fun i _=>i<x.cps.size,fun i H v H'=>H'=H∧∃ c,x.cps[i]?=some c∧v= .str ⟨#[c]⟩,fun i _=>x.cps.size≤i⟩
theorem qdo {P:Program} {w:World} {K:Frag} {tg:Expr} (it:Addr) (x:Str) (t:Tok):Turn P w K tg (Its x) [it] it (fun i h=>h.IsStrIter it (strIterType x) x t i) where
 mem:=by simp
 obj:=fun i h st b hb=>by
  have e:b=it:=by simpa using hb
  subst e;obtain ⟨o,e,c,d⟩:=st;exact ⟨o,e,fun v z=>by rw [d] at z;cases z⟩
 keep:=fun i h h' st k=>by
  obtain ⟨o,e,c⟩:=st;exact ⟨o,k it (by simp) o e,c⟩
 item:=by
  intro X hP hw hK hc i pins s σ H E I hf st hg;subst hP hw hK;obtain ⟨f0,f1,f2,f3,f4,f5⟩:=hf it (by simp)
  have hlt:i<x.cps.size:=hg;have hi:x.cps[i]?=some x.cps[i]:=Array.getElem?_eq_getElem hlt;have fin:∀ h',h'.IsStrIter it (strIterType x) x t (i+1)→Heap.SameBut it s.heap h'→∃ u,some (Value.str ⟨#[x.cps[i]]⟩ s.toks)=some u∧
    wpAny (model X.prog X.w) X.A (letOwnedTupleGo tg (.ref it) u) (fun _ s2=>∃ y H',Inv X pins σ H' s2∧qM y u∧(Its x).yld i H y H'∧s2.heap.IsStrIter it (strIterType x) x t (i+1)∧∀ b∈[it],H' b=none) E {s with heap:=h',toks:=s.toks+1}:=fun h' st' sb=>by
   have I1:Inv X pins σ H {s with heap:=h',toks:=s.toks+1}:=I.turned (fun b o hb e=>(sb.2 b hb).trans e) f0 f1 f3 f4 f5
   obtain ⟨o,e,c,d⟩:=id st';refine ⟨_,rfl,Z4 (s:={s with heap:=h',toks:=s.toks+1}) e c d ?_ ⟨.str ⟨#[x.cps[i]]⟩,H,I1,⟨_,rfl⟩,⟨rfl,_,hi,rfl⟩,st',fun b hb=>(hf b hb).1⟩⟩
   unfold strIterType;split <;> decide
  cases ha:x.cps.all (· <128) with
  | true=>
   have e:strIterType x="str_ascii_iterator":=by unfold strIterType;rw [if_pos ha]
   rw [e] at st;refine wpAny_pyNext_ascii_item st hi fun h' st' sb=>fin h' (by rw [e];exact st') sb
  | false=>
   have e:strIterType x="str_iterator":=by unfold strIterType;rw [if_neg (by rw [ha];decide)]
   rw [e] at st;refine wpAny_pyNext_wide_item st hi fun h' st' sb=>fin h' (by rw [e];exact st') sb
 done:=by
  intro X hP hw hK hc i pins s σ H E I hf st hg;subst hP hw hK;obtain ⟨f0,f1,f2,f3,f4,f5⟩:=hf it (by simp)
  have hi:x.cps[i]?=none:=by
   have:x.cps.size≤i:=hg;simp [this]
  cases ha:x.cps.all (· <128) with
  | true=>
   have e:strIterType x="str_ascii_iterator":=by unfold strIterType;rw [if_pos ha]
   rw [e] at st;exact wpAny_pyNext_ascii_end (I.ok.hd hc) st hi fun h' eb=>⟨rfl,I.turned (t':=s.toks) (fun b o hb e=>eb b o hb e) f0 f1 f3 f4 f5⟩
  | false=>
   have e:strIterType x="str_iterator":=by unfold strIterType;rw [if_neg (by rw [ha];decide)]
   rw [e] at st;exact wpAny_pyNext_wide_end (I.ok.hd hc) st hi fun h' eb=>⟨rfl,I.turned (t':=s.toks) (fun b o hb e=>eb b o hb e) f0 f1 f3 f4 f5⟩
 self:=fun A i s Q E st h=>by
  cases ha:x.cps.all (· <128) with
  | true=>
   have e:strIterType x="str_ascii_iterator":=by unfold strIterType;rw [if_pos ha]
   rw [e] at st;exact wpAny_pyIter_striter_ascii st h
  | false=>
   have e:strIterType x="str_iterator":=by unfold strIterType;rw [if_neg (by rw [ha];decide)]
   rw [e] at st;exact wpAny_pyIter_striter_wide st h
def qkg:V→Option Int→Option Int→Hp→VK→Prop:=fun v lo hi H Q=>∃ x,v= .str x∧x.length≤sizeLine∧Q (.str (Txt.slice x lo hi)) H
theorem qia:SlR X qkg:=by
 intro pins s σ H x v vl vu lo hi sl Q I rx hs pl pu h;obtain ⟨z,rfl,hz,q⟩:=h;obtain ⟨t,rfl⟩:=rx;refine ⟨"str",_,F.slot_str_getitem.lookup,typeIs_str _ _ _,?_⟩;have fin:∀ t' k,EP X pins σ Q (.str (Txt.slice z lo hi) t') {s with toks:=k}:=fun t' k=>⟨.str _,H,I.tok k,⟨t',rfl⟩,q⟩
 obtain ⟨o,ho,hc,hd⟩:=hs;cases pl with
 | none=>cases pu with
  | none=>exact Ec (l:=none) (u:=none) (st:=none) ⟨o,ho,hc,hd⟩ rfl (post_val_or_str ⟨Av (Txt.slice_le z _ _) hz,fin⟩)
  | int j tj=>exact Ec (l:=none) (u:=some (j,tj)) (st:=none) ⟨o,ho,hc,hd⟩ rfl (post_val_or_str ⟨Av (Txt.slice_le z _ _) hz,fin⟩)
 | int i ti=>cases pu with
  | none=>exact Ec (l:=some (i,ti)) (u:=none) (st:=none) ⟨o,ho,hc,hd⟩ rfl (post_val_or_str ⟨Av (Txt.slice_le z _ _) hz,fin⟩)
  | int j tj=>exact Ec (l:=some (i,ti)) (u:=some (j,tj)) (st:=none) ⟨o,ho,hc,hd⟩ rfl (post_val_or_str ⟨Av (Txt.slice_le z _ _) hz,fin⟩)
theorem qb7 {bs:List Bool}:(List.range bs.length).all (fun i=>bs.getD i false)=bs.all id:=by
 rw [Cc,A3,A3];constructor
 ·intro h b hb;obtain ⟨i,hi,e⟩:=List.getElem_of_mem hb;have:=h i (Dg.mpr hi);rw [List.getD_eq_getElem?_getD,Aq hi] at this;rw [← e];exact this
 ·intro h i hi;have hi':=Dg.mp hi;rw [List.getD_eq_getElem?_getD,Aq hi'];exact h _ (Dq hi')
theorem qfk (hc:X.calm=true):jK X (.builtin "all") (fun xs H Q=>∃ (a:Addr) (bs:List Bool),xs=[.ref a]∧SqL X.K H a (bs.map V.bl)∧Q (.bl (bs.all id)) H):=by
 intro pins s σ H xs us Q I r h;obtain ⟨a,bs,rfl,ha,q⟩:=h;obtain ⟨u,rfl,ru⟩:=Ja r;cases ru;obtain ⟨its,rv,p,hz⟩:=I.list ha;have hlt:a<s.heap.objs.size:=by
  obtain ⟨o,n,e,_⟩:=id p;exact Al e
 have hl:its.length=bs.length:=by rw [← rv.length,Ab]
 refine call_all_walk (wpAny_pyIter_list p.isList ?_);refine ⟨s.heap.objs.size,[s.heap.objs.size,a],[s.heap.objs.size],its.toArray.size,_,_,fun i=>bs.getD i false,rfl,Walks.list (A:=X.A.in1) (I.ok.hd hc) s.heap.objs.size a (A8 hlt) its.toArray,⟨⟨_,Aw _ rfl,rfl,rfl⟩,p.isList.at fun o e=>Af _ e⟩,?_,fun h' tk hk=>?_⟩
 ·intro i v s' Q' E' hv hq;have hv':its[i]?=some v:=by simpa using hv
  have hi:i<its.length:=(B2.mp hv').1;have hb:(bs.map V.bl)[i]?=some (.bl (bs.getD i false)):=by
   rw [A0,List.getD_eq_getElem?_getD,Aq ⋯];rfl
  obtain ⟨u,hu,ru⟩:=rv.get hb;rw [hv'] at hu;cases hu;cases (show v=Value.bool _ from ru);exact Cl hq
 ·have e:its.toArray.size=bs.length:=by rw [Ar];exact hl
  rw [e,qb7];refine ⟨.bl _,H,?_,rfl,q⟩;have I1:Inv X pins σ H {s with heap:=s.heap.push {cls:= .type "list_iterator",data:= .fields #[.ref a,.int 0 0]}}:=I.kept (t':=s.toks) fun b o e=>Af _ e
  have f:=I.fpOk (Ah _) (I.hok.fresh (Ah _));exact I1.turned (fun b o hb e=>hk b o (by simpa using hb) e) f.1 f.2.1 f.2.2.2.1 f.2.2.2.2.1 f.2.2.2.2.2
theorem Xi:∀ {ys:List Str} {its:List Value},qP (ys.map V.str) its→StrsAre its ys
 | [],_,.nil=> .nil
 | y::r,_,.cons h t=>by
  obtain ⟨k,rfl⟩:=h;exact .cons _ k (Xi t)
def qhw (K:Frag):V→List V→Hp→VK→Prop:=fun x xs H Q=>∃ (z:Str) (a:Addr) (ys:List Str),x= .str z∧xs=[.ref a]∧SqL K H a (ys.map V.str)∧(ys.map (·.length)).sum+ys.length*z.length≤16777216∧Q (.str (Txt.join z ys)) H
theorem qg3:MtR X "str.join" (qhw X.K):=by
 intro pins s σ H x xs v us Q I rx r h;obtain ⟨z,a,ys,rfl,rfl,ha,hk,q⟩:=h;obtain ⟨t,rfl⟩:=rx;obtain ⟨u,rfl,ru⟩:=Ja r;cases ru;obtain ⟨its,rv,p,hz⟩:=I.list ha;exact join_list p.isList (by simpa using Xi rv) hk fun t' k=>⟨.str _,H,I.tok k,⟨t',rfl⟩,q⟩
def isi (t T:String):Bool:=t==T||(t=="bool"&&T=="int")
theorem vU {K:Frag} {t T:String} (h1:t∈["NoneType","bool","int","str","list","tuple","dict"]) (h2:T∈["bool","int","str","list","tuple"]):PySem.W.kitOne K (.type t) (.type T)=some (isi t T):=by
 simp only [Ap,Bg,or_false] at h1 h2;rcases h1 with rfl | rfl | rfl | rfl | rfl | rfl | rfl <;> rcases h2 with rfl | rfl | rfl | rfl | rfl <;> kernel_rfl
end
theorem qZ {c:Bool} {A B:Prop} (e:c=true) (h:A):if c=true then A else B:=by rw [if_pos e];exact h
theorem qR {c:Bool} {A B:Prop} (e:c=false) (h:B):if c=true then A else B:=by rw [if_neg (by rw [e];decide)];exact h
theorem zJ:bootBuiltins "len"=some (.builtin "len"):=∅
theorem qju:bootBuiltins "max"=some (.builtin "max"):=∅
theorem Q2:bootBuiltins "all"=some (.builtin "all"):=∅
theorem qJ:bootBuiltins "isinstance"=some (.builtin "isinstance"):=∅
theorem wy:bootBuiltins "str"=some (.type "str"):=∅
theorem qfl:bootBuiltins "int"=some (.type "int"):=∅
theorem qhj:bootBuiltins "bool"=some (.type "bool"):=∅
theorem WT:bootBuiltins "list"=some (.type "list"):=∅
theorem zH:bootBuiltins "tuple"=some (.type "tuple"):=∅
theorem qjt:bootBuiltins "set"=some (.type "set"):=∅
section
variable {X:Cx} {x:Str} {pos:Pos} {tg:Expr}
theorem JQ {T:String} (hm:X.mg x=none) (hv:bootBuiltins x=some (.type T)) (hg:Gl X x:=by rfl) (hn:x≠"__name__":=by decide) (hd:(x==("__debug__":Str))=false:=by decide):PE X (.Name x pos) (tC (.ty T)):=qgx hg hm hv rfl hn hd
theorem Vs {v:V} (h:∃ u,X.mg x=some u∧qM v u) (hg:Gl X x:=by rfl) (hd:(x==("__debug__":Str))=false:=by decide):PE X (.Name x pos) (tC v):=by
 obtain ⟨u,m,r⟩:=h;exact qas hg m r hd
def qko:R2:=fun x y H Q=>∃ i j,x= .str i∧y= .str j∧i.length+j.length≤sizeLine∧Q (.str (i++j)) H
def zW:R2:=fun x y H Q=>rI0 (fun i j=> .int (i+j)) x y H Q∨(qko x y H Q∨qkn x y H Q)
theorem zb:OpR X (binaryOp .Add) zW:=qi6.or (QN.or qi5)
def v3 (K:Frag) (tl:TE):TI:=fun σ H R=>tl σ H fun x H1=>(∃ a,x= .ref a∧(∃ xs,SqL K H1 a xs)∧R (Itl K a) H1)∨(∃ a,x= .ref a∧(∃ xs,SqT K H1 a xs)∧R (Itt K a) H1)∨∃ z,x= .str z∧R (Its z) H1
theorem qiq {l:Expr} {tl:TE} (hl:PE X l tl):PI X tg l (v3 X.K tl):=by
 intro pins s σ H R I h;refine thn (hl pins s σ H _ I h) fun v s1 ⟨x,H1,I1,r1,q1⟩=>?_;have fr:∀ b∈[s1.heap.objs.size],V5 X pins H1 b:=fun b hb=>by
  have e:b=s1.heap.objs.size:=by simpa using hb
  subst e;exact I1.fpOk (Ah _) (I1.hok.fresh (Ah _))
 rcases q1 with ⟨a,e,⟨xs,hq⟩,q⟩ | ⟨a,e,⟨xs,hq⟩,q⟩ | ⟨z,e,q⟩
 ·subst e;cases r1;obtain ⟨its,rv,p,hz⟩:=I1.list hq;refine wpAny_pyIter_list p.isList ?_;exact ⟨s1.heap.objs.size,[s1.heap.objs.size],_,_,H1,rfl,I1.kept (t':=s1.toks) fun b o e=>Af _ e,qbt a _,⟨_,Aw _ rfl,rfl,rfl⟩,fr,q⟩
 ·subst e;cases r1;obtain ⟨its,rv,p,hz⟩:=I1.tuple hq;refine Ez (show s1.heap.IsTuple a its.toArray from p) ?_;exact ⟨s1.heap.objs.size,[s1.heap.objs.size],_,_,H1,rfl,I1.kept (t':=s1.toks) fun b o e=>Af _ e,Qy a _,⟨_,Aw _ rfl,rfl,rfl⟩,fr,q⟩
 ·subst e;obtain ⟨t,rfl⟩:=r1;refine wpAny_pyIter_strU ?_;exact ⟨s1.heap.objs.size,[s1.heap.objs.size],_,_,H1,rfl,I1.kept (t':=s1.toks) fun b o e=>Af _ e,qdo _ z t,⟨_,Aw _ rfl,rfl,rfl⟩,fr,q⟩
def QI (K:Frag):V→Option Int→Option Int→Hp→VK→Prop:=fun x lo hi H Q=>qkh K x lo hi H Q∨(qkg x lo hi H Q∨qkf K x lo hi H Q)
theorem qib:SlR X (QI X.K):=qf3.or (qia.or qh9)
end
section
variable {X:Cx} {K:Frag} {tg:Expr}
theorem ix_k (h:X.K=K):IxR X (rIx K):=h▸qjj
theorem Zr (h:X.K=K):SlR X (QI K):=h▸qib
theorem jw (h:X.K=K):jK X (.builtin "len") (fun xs H Q=>∃ x n,xs=[x]∧v9 K x H n∧Q (.int n) H):=h▸qfj
theorem qfp (h:X.K=K) (hc:X.calm=true):jK X (.builtin "all") (fun xs H Q=>∃ (a:Addr) (bs:List Bool),xs=[.ref a]∧SqL K H a (bs.map V.bl)∧Q (.bl (bs.all id)) H):=h▸qfk hc
theorem qez (h:X.K=K):MtR X "str.join" (qhw K):=h▸qg3
theorem qhz (h:X.K=K) (hu:X.A.units+64<cLine):OpR X (compareOp .Eq) (qgg K):=h▸qi4 hu
theorem qhy (h:X.K=K) (hu:X.A.units+64<cLine):OpR X (compareOp .NotEq) (qgf K):=h▸qi3 hu
theorem JP {l:Expr} {tl:TE} (h:X.K=K) (hl:PE X l tl):PI X tg l (v3 K tl):=h▸qiq hl
theorem Jw (h:X.K=K):jK X (.type "tuple") (fun xs H Q=>∃ p ys,xs=[.ref p]∧((SqL K H p ys∧∀ l,H l=none→Q (.ref l) (upd H l (.tup ys)))∨(SqT K H p ys∧Q (.ref p) H))):=h▸Yj
theorem YN {es:List Expr} {k:Nat} {t:TGs} {n:Nat} {pos:Pos} (hK:X.K=K) (hc:X.calm=true) (h:PGs X es t) (hn:(assignEach es X.env).length=n:=by rfl) (hst:(assignEach es X.env).findIdx? (·.1)=none:=by rfl):PG X (.Tuple es k pos) (qe8 K n t):=hK▸qis hc h hn hst
theorem JN {o e:Expr} {es:List Expr} {to:TE} {t:TA} {name:Str} {apos cpos:Pos} {T id:String} {r:V→List V→Hp→VK→Prop} (hK:X.K=K) (pa:PlainAttrs T) (slot:Slot T name id) (hty:typeOf (.builtin id)=pure (.type "method_descriptor")) (hm:MtR X id r) (ho:PE X o to) (ha:PA X (e::es) t)
  (hbase:attributeBase o name X.env (eval o X.env)=eval o X.env:=by rfl)
  (hfew:((backTo cpos (starEach (e::es) X.env)).all (fun x=>!x.1)&&(backToKw cpos (keywordEach [] X.env)).all (fun x=>x.1.isSome)
   &&decide ((e::es).length+([]:List Keyword).length+(if ([]:List Keyword).isEmpty then 0 else 1)<30))=true:=by rfl)
  (hline:(apos.endLine==cpos.line)=true:=by rfl) (hs:starEach (e::es) X.env=(false,eval e X.env)::starEach es X.env:=by rfl) (hplain:(backTo cpos (starEach es X.env)).any (·.1)=false:=by rfl):
  PE X (.Call (.Attribute o name apos) (e::es) [] cpos) (tBM K T r to t):=hK▸qkt pa slot hty hm ho ha hbase hfew hline hs hplain
theorem qh2 {o:Expr} {to:TE} {name:Str} {apos cpos:Pos} {T id:String} {r:V→List V→Hp→VK→Prop} (hK:X.K=K) (pa:PlainAttrs T) (slot:Slot T name id) (hty:typeOf (.builtin id)=pure (.type "method_descriptor")) (hm:MtR X id r) (ho:PE X o to)
  (hbase:attributeBase o name X.env (eval o X.env)=eval o X.env:=by rfl) (hline:(apos.endLine==cpos.line)=true:=by rfl):PE X (.Call (.Attribute o name apos) [] [] cpos) (qfz K T r to):=hK▸qiz pa slot hty hm ho hbase hline
end
structure Def (P:Program) (w:World) (K:Frag) (mg:Str→Option Value) (base:Heap) (k:Nat) (x:Str) (ps:List Str) (sp:Sp):Prop where
 ex:∃ (f:Addr) (fd:FuncData),FnOk P w K mg base CX0 k f fd ps sp∧Jd K fd ps []∧PySem.W.keepIn K (.ref f)=true∧mg x=some (.ref f)
theorem qiy {X:Cx} {k:Nat} {x:Str} {ps:List Str} {sp:Sp} {e:Expr} {es:List Expr} {t:TA} {p pos:Pos} (D:Def X.prog X.w X.K X.mg X.base k x ps sp) (hr:Room k X.A) (ha:PA X (e::es) t) (hg:Gl X x:=by rfl)
  (hdb:(x==("__debug__":Str))=false:=by decide) (he:starEach (e::es) X.env=(false,eval e X.env)::starEach es X.env:=by rfl) (hpl:(backTo pos (starEach es X.env)).any (·.1)=false:=by rfl):
  PE X (.Call (.Name x p) (e::es) [] pos) (qE sp [] E0 t):=by
 obtain ⟨f,fd,F,B,kp,m⟩:=D.ex;exact Xr F hr hg m kp B .nil qep ha hdb he hpl
theorem zd.there {P:Program} {w:World} {H:Hp} {h:Heap} {a:Addr} {o:HO} (x:zd P w H h a o):∃ ob,h.get? a=some ob:=by
 cases o with
 | lst xs=>obtain ⟨_,_,_,_,e⟩:=x;exact ⟨_,e⟩
 | tup xs=>obtain ⟨_,_,_,o,e,_⟩:=x;exact ⟨_,e⟩
 | dK kvs=>obtain ⟨_,_,_,_,o,_,_,e,_⟩:=x;exact ⟨_,e⟩
 | dT kvs=>obtain ⟨_,_,_,_,o,_,_,e,_⟩:=x;exact ⟨_,e⟩
 | set S n=>obtain ⟨o,_,_,_,e,_⟩:=x;exact ⟨_,e⟩
 | ins C dx fs=>obtain ⟨_,_,_,e,_⟩:=x;exact ⟨_,e⟩
 | own y=>exact x
 | xd fs=>obtain ⟨_,⟨_,_,_,e,_⟩,_⟩:=x;exact ⟨_,e⟩
 | rng lo hi=>obtain ⟨_,_,_,e⟩:=x;exact ⟨_,e⟩
 | frz ob u=>obtain ⟨e,_⟩:=x;exact ⟨_,e⟩
 | tbl ps=>exact ⟨_,(show h.get? a=some _ from x)⟩
 | met f y=>exact ⟨_,(show h.get? a=some _ from x)⟩
 | ext φ=>obtain ⟨_,e,_⟩:=x;exact e
structure Fly (P:Program) (w:World) (outer:List Env) (H:Hp) (s:Shared) (H':Hp) (ea:Addr) (C:Value) (s':Shared):Prop where
 os:s'.os=s.os
 bare:AllBare s'.gens
 un:Un (frs outer) [] H H' s.heap s'.heap
 hok:HOk P w H' s'.heap
 frees:∀ b∈frs outer,H' b=none
 fly:∃ B a0,Heap.FlyingW B outer ea C a0 s'.heap∧∀ b o,s'.heap.get? b=some o→(H' b≠none∨∃ o0,s.heap.get? b=some o0)→b∉frs outer→B.get? b=some o
abbrev CX1 (P:Program) (w:World):CXT:=fun outer H s E e s'=>∃ ea C H',e= .ref ea∧Fly P w outer H s H' ea C s'∧E C none H'
section
variable {P:Program} {w:World} {outer l2:List Env} {H H':Hp} {s s':Shared} {ea:Addr} {C:Value} {h':Heap}
theorem qfd {B:Heap} {a0:Value} (F:Fly P w outer H s H' ea C s') (hB:∀ b o,s'.heap.get? b=some o→(H' b≠none∨∃ o0,s.heap.get? b=some o0)→b∉frs outer→B.get? b=some o)
  (fl:Heap.FlyingW B outer ea C a0 h') (sm:s'.heap.UpToSlots h') (hd:∀ b∈frs outer,∀ o,s'.heap.get? b=some o→∀ vs,o.data≠ .fields vs):Fly P w outer H s H' ea C {s' with heap:=h'}:=by
 have stay:∀ b o,s'.heap.get? b=some o→(H' b≠none∨∃ o0,s.heap.get? b=some o0)→b∉frs outer→h'.get? b=some o:=fun b o e z n=>fl.1 b o (hB b o e z n);refine ⟨F.os,F.bare,⟨fun b o e n hb hx=>?_,fun b o e n hb hx=>?_,F.un.free,fun b o e hx=>?_,F.un.tups,F.un.frzs,F.un.tbls⟩,fun b u e=>?_,F.frees,B,a0,fl,fun b o e z n=>?_⟩
 ·exact stay b o (F.un.keep b o e n hb hx) (.inr ⟨o,e⟩) hb
 ·obtain ⟨sl,e1⟩:=F.un.slot b o e n hb hx;obtain ⟨sl',e2⟩:=sm b _ e1 (hd b hb _ e1);exact ⟨sl',e2⟩
 ·obtain ⟨o1,e1⟩:=F.un.there b o e hx
  by_cases hb:b∈frs outer
  ·obtain ⟨sl',e2⟩:=sm b _ e1 (hd b hb _ e1);exact ⟨_,e2⟩
  ·exact ⟨o1,stay b o1 e1 (.inr ⟨o,e⟩) hb⟩
 ·have nf:∀ c v,H' c=some v→c∉frs outer:=fun c v q z=>by rw [F.frees c z] at q;cases q
  refine (F.hok b u e).stay (fun c v hc q=>?_) (fun _ q=>q) fun _ _ q=>q;rcases hc with rfl | hc
  ·exact stay c v q (.inl (by rw [e];simp)) (nf c _ e)
  ·exact stay c v q (.inl (by rw [hc];simp)) (nf c _ hc)
 ·have e0:∃ o1,s'.heap.get? b=some o1:=by
   rcases z with z | ⟨o0,z⟩
   ·cases q:H' b with
    | none=>exact absurd q z
    | some u=>exact (F.hok b u q).there
   ·exact F.un.there b o0 z (by simp)
  obtain ⟨o1,e1⟩:=e0;have e2:=hB b o1 e1 z n;have e3:=fl.1 b o1 e2;have e':h'.get? b=some o:=e;rw [e'] at e3;cases e3;exact e2
end
section
variable {P:Program} {w:World} {K:Frag} {mg:Str→Option Value} {base:Heap} {N:List Str} {qual:Str} {scope:Scope} {f:Addr} {cd:Value} {A:Around} {outer:List Env} {s₀:Shared} {H₀:Hp} {E:XK}
theorem yC {env:Env} {L:Addr} (h:env.frame=some L) (outer:List Env):frs (env::outer)=L::frs outer:=by
 unfold frs;rw [Eb,h]
theorem qa9 {pins:List (Addr×Obj)} {σ:St} {H H':Hp} {s s':Shared} {ea:Addr} {C:Value}
  (I:Inv (j4 (CX1 P w) P w K mg base N qual scope f cd A outer s₀ H₀ E) pins σ H s) (F:Fly P w (envOfC qual scope s₀.heap.objs.size f cd::outer) H s H' ea C s'):
  ∀ {Q:Unit→Shared→Prop} {E':Value→Shared→Prop},(∀ s'',Fly P w outer H₀ s₀ H' ea C s''→Q () s'')→wpAny (model P w) (A.deeper (envOfC qual scope s₀.heap.objs.size f cd)) (leaving (envOfC qual scope s₀.heap.objs.size f cd) (.ref ea)) Q E' s':=by
 intro Q E' hQ;obtain ⟨B,a0,fl,hB⟩:=F.fly;have fc:frs (envOfC qual scope s₀.heap.objs.size f cd::outer)=s₀.heap.objs.size::frs outer:=yC rfl outer;refine wpAny_leaves_onW (L:=s₀.heap.objs.size) I.ok.frames rfl fl fun h' fl' sm=>hQ _ ?_;have U1:Un (frs outer) [] H₀ H s₀.heap s.heap:=I.base;have U2:=F.un;rw [fc] at U2 hB;have nL:∀ b o,s₀.heap.get? b=some o→b≠s₀.heap.objs.size:=fun b o e=>A8 (Al e);have nf:∀ b o,s₀.heap.get? b=some o→b∉frs outer→b∉s₀.heap.objs.size::frs outer:=fun b o e hb z=>by
  rcases Ap.mp z with z | z
  ·exact nL b o e z
  ·exact hb z
 have stay:∀ b o,s'.heap.get? b=some o→(H' b≠none∨∃ o0,s.heap.get? b=some o0)→b∉s₀.heap.objs.size::frs outer→h'.get? b=some o:=fun b o e z n=>fl'.1 b o (hB b o e z n);have hd:∀ b∈frs outer,∀ o,s'.heap.get? b=some o→∀ vs,o.data≠ .fields vs:=fun b hb o e vs=>by
  obtain ⟨_,o1,e1,d1⟩:=fl.2.2.1.mem (b:=b) (by rw [show List.filterMap (fun x=>x.frame) (envOfC qual scope s₀.heap.objs.size f cd::outer)=frs (envOfC qual scope s₀.heap.objs.size f cd::outer) from rfl,fc];exact Am _ hb)
  rw [e] at e1;cases e1;exact d1 vs
 have hfr:∀ b∈frs outer,H' b=none:=fun b hb=>F.frees b (by rw [fc];exact Am _ hb)
 have there2:∀ b o,s₀.heap.get? b=some o→∃ o1,s.heap.get? b=some o1∧∃ o2,s'.heap.get? b=some o2:=fun b o e=>by
  obtain ⟨o1,e1⟩:=U1.there b o e (by simp)
  obtain ⟨o2,e2⟩:=U2.there b o1 e1 (by simp)
  exact ⟨o1,e1,o2,e2⟩
 refine ⟨F.os.trans I.os,F.bare,⟨fun b o e n hb hx=>?_,fun b o e n hb hx=>?_,fun b o e n hx=>?_,fun b o e hx=>?_,fun b xs q=>U2.tups b xs (U1.tups b xs q),fun b o u q=>U2.frzs b o u (U1.frzs b o u q),fun b ps q=>?_⟩,fun b u e=>?_,hfr,B,a0,fl',fun b o e z n=>?_⟩
 ·have e1:=U1.keep b o e n hb (by simp)
  have n1:=U1.free b o e n (by simp)
  exact stay b o (U2.keep b o e1 n1 (nf b o e hb) (by simp)) (.inr ⟨o,e1⟩) (nf b o e hb)
 ·obtain ⟨sl,e1⟩:=U1.slot b o e n hb (by simp)
  have n1:=U1.free b o e n (by simp)
  obtain ⟨sl2,e2⟩:=U2.slot b _ e1 n1 (Am _ hb) (by simp)
  obtain ⟨sl3,e3⟩:=sm b _ e2 (hd b hb _ e2);exact ⟨sl3,e3⟩
 ·obtain ⟨o1,e1⟩:=U1.there b o e (by simp)
  exact U2.free b o1 e1 (U1.free b o e n (by simp)) (by simp)
 ·obtain ⟨o1,e1,o2,e2⟩:=there2 b o e
  by_cases hb:b∈frs outer
  ·obtain ⟨sl3,e3⟩:=sm b _ e2 (hd b hb _ e2);exact ⟨_,e3⟩
  ·exact ⟨o2,stay b o2 e2 (.inr ⟨o1,e1⟩) (nf b o e hb)⟩
 ·obtain ⟨m1,e1⟩:=U1.tbls b ps q;obtain ⟨m2,e2⟩:=U2.tbls b _ e1;exact ⟨m1++m2,by rw [e2,Array.append_assoc]⟩
 ·have nt:∀ c v,H' c=some v→c∉s₀.heap.objs.size::frs outer:=fun c v q z=>by
   rw [F.frees c (by rw [fc];exact z)] at q;cases q
  refine (F.hok b u e).stay (fun c v hc q=>?_) (fun _ q=>q) fun _ _ q=>q;rcases hc with rfl | hc
  ·exact stay c v q (.inl (by rw [e];simp)) (nt c _ e)
  ·exact stay c v q (.inl (by rw [hc];simp)) (nt c _ hc)
 ·have nt:∀ c v,H' c=some v→c∉s₀.heap.objs.size::frs outer:=fun c v q z=>by
   rw [F.frees c (by rw [fc];exact z)] at q;cases q
  have e0:∃ o1,s'.heap.get? b=some o1∧(H' b≠none∨∃ o0,s.heap.get? b=some o0)∧b∉s₀.heap.objs.size::frs outer:=by
   rcases z with z | ⟨o0,z⟩
   ·cases q:H' b with
    | none=>exact absurd q z
    | some u=>
     obtain ⟨o1,e1⟩:=(F.hok b u q).there;exact ⟨o1,e1,.inl (by simp),nt b u q⟩
   ·obtain ⟨o1,e1,o2,e2⟩:=there2 b o0 z;exact ⟨o2,e2,.inr ⟨o1,e1⟩,nf b o0 z n⟩
  obtain ⟨o1,e1,z1,n1⟩:=e0;have e2:=hB b o1 e1 z1 n1;have e3:=fl'.1 b o1 e2;have e':h'.get? b=some o:=e;rw [e'] at e3;cases e3;exact e2
end
section
open PySem.Builtin PySem.Builtin.ObjectAttr PySem.Builtin.Getset_descriptor
variable {prog:Program} {w:World} {A:Around} {K:Frag} {x D:Addr}
def Jc (x D:Addr) (h:Heap):Prop:=∃ o,h.get? x=some o∧o.cls= .ref D
theorem Jc.looks {M:Model} {h:Heap} (p:Jc x D h):PySem.W.Looks M h (typeOf (.ref x)) (.ref D):=by
 obtain ⟨o,e,c⟩:=p;exact c▸(PySem.W.Looks.ld e).andThen .now
structure XK1 (K:Frag) (D:Addr):Prop where
 ga:PySem.W.findIn K (.ref D) "__getattribute__"=some (some (.builtin "BaseException.__getattribute__"))
 gt:PySem.W.findIn K (.ref D) "__getattr__"=some none
 be:PySem.W.mroIn K D (.type "BaseException")=some true
 cl:(PySem.W.clsIn K D).isSome=true
 fd:PySem.W.findIn K (.ref D) "__class__"=some (some (.builtin "object.__class__"))
 sp:PySem.W.specialIn K (.builtin "object.__class__") "__get__"=some (some (.builtin "getset_descriptor.__get__"))
 tk:PySem.W.takesIn K (.builtin "object.__class__")=some true
 ob:PySem.W.mroIn K D (.type "object")=some true
theorem XK1.class_ok {s:Shared} {R:Result→Shared→Prop} {tp:Value} (c:XK1 K D) (X:K.In s.heap) (p:Jc x D s.heap) (h:R (.ok (.ret (.ref D))) s):
  codeAny (model prog w) A (.call (.builtin "getset_descriptor.__get__") ⟨[.builtin "object.__class__",.ref x,tp],[]⟩) R s:=by
 obtain ⟨hp,gs,dw,tk,os⟩:=s;have L0:=Jc.looks (M:=model prog w) p;have L1:=PySem.W.looks_mroIn (M:=model prog w) X c.ob;refine Di PySem.W.KF.slot_gs.plain PySem.W.KF.entry_gs
  (PySem.W.KF.slot_gs.check _ _ _ _ _ _ _ _ PySem.W.KF.type_class (PySem.W.KF.args_gs _ _ _) ?_)
 unfold Builtin.«getset_descriptor.__get__» descrGet;rw [PySem.W.dga_obj];refine Aa (Ai ?_);unfold descrGetter descrCheckInstance descrNameAndClass isInstance;simp only [PySem.W.KF.owner_class];repeat lk
 refine ⟨Ex _ ∅,codeAny_builtin PySem.W.KF.entry_class ?_⟩;unfold Builtin.«object.__class__» shownTypeOf;repeat lk
 exact h
theorem XK1.find_ok {M:Model} {h:Heap} (c:XK1 K D) (X:K.In h):PySem.W.Looks M h (find (.ref x) (.ref D) "__class__") (.bind (.builtin "getset_descriptor.__get__") (.builtin "object.__class__")):=by
 have L1:=C7 (M:=M) X c.fd;have L2:=PySem.W.looks_specialIn (M:=M) X c.sp;have L3:=PySem.W.looks_takesIn (M:=M) X c.tk;refine L1.andThen (L2.andThen ?_);exact (show PySem.W.Looks M h (dataDescriptor? (some (.builtin "object.__class__")) (some (.builtin "getset_descriptor.__get__"))) (some (.builtin "getset_descriptor.__get__",.builtin "object.__class__")) from L3.andThen .now).andThen (PySem.W.Looks.tag .now)
theorem XK1.check_ok {E:Value→Shared→Prop} {s:Shared} {nm:Value} {Q:Unit→Shared→Prop} (c:XK1 K D) (X:K.In s.heap) (p:Jc x D s.heap) (h:Q () s):
  wpAny (model prog w) A (checkBuiltinCall "BaseException.__getattribute__" ⟨[.ref x,nm],[]⟩) Q E s:=by
 obtain ⟨hp,gs,dw,tk,os⟩:=s;have L0:=Jc.looks (M:=model prog w) p;have L1:=PySem.W.looks_mroIn (M:=model prog w) X c.be;have e1:builtinKind "BaseException.__getattribute__"=some .slot:=∅;have e2:splitId "BaseException.__getattribute__"=some ("BaseException","__getattribute__"):=∅;have e3:=F.args_bexc_ga (.ref x) nm;simp only [checkBuiltinCall,e1,e2];refine Aa ((L0.andThen L1).at ?_)
 repeat (first | exact h | wp_step)
theorem XK1.entry_ok {E:Value→Shared→Prop} {s:Shared} {tk:Tok} {Q:Fin→Shared→Prop} (c:XK1 K D) (X:K.In s.heap) (p:Jc x D s.heap) (h:Q (.done (.ret (.ref D))) s):
  wpAny (model prog w) A (Builtin.«object.__getattribute__» ⟨[.ref x,.str "__class__" tk],[]⟩) Q E s:=by
 obtain ⟨hp,gs,dw,tk',os⟩:=s;have L0:=Jc.looks (M:=model prog w) p;have L2:=XK1.find_ok (M:=model prog w) (x:=x) c X;unfold Builtin.«object.__getattribute__»;refine Aa (Ai (Aa (Ai (Aa (L0.at (Aa (L2.at ?_)))))));show wpAny _ _ (bindTo _ _ _ _) _ _ _;unfold bindTo;show wpAny _ _ (holding [_] (call _ [_,.ref x,.ref D])>>=ret) _ _ _;exact Aa (B5 (Eh (c.class_ok (s:=⟨hp,gs,dw,tk',os⟩) X p (Ai h))))
theorem XK1.attr_ok {E:Value→Shared→Prop} {s:Shared} {Q:Option Value→Shared→Prop} (c:XK1 K D) (X:K.In s.heap) (p:Jc x D s.heap) (h:Q (some (.ref D)) {s with toks:=s.toks+1}):
  wpAny (model prog w) A (getAttr? (.ref x) "__class__") Q E s:=by
 obtain ⟨hp,gs,dw,tk,os⟩:=s;have L0:=Jc.looks (M:=model prog w) p;have L1:=C7 (M:=model prog w) X c.ga;have L3:=C7 (M:=model prog w) X c.gt;have b1:=F.excAttr_ValueError.ga.bind (.ref x);unfold getAttr? getAttrBy? getAttrBy;refine Aa (wpAny_mkText (Aa (Do (B5 (Aa (L0.at (Aa (L1.at ?_))))))));dsimp only;have e2:(Value.builtin "BaseException.__getattribute__"==Value.builtin "object.__getattribute__")=false:=∅;rw [e2,C9,if_neg Ag];unfold getAttrByItsOwn hookBefore;rw [if_pos (show onTheHeap (.ref D)=true from rfl)];refine Aa (L3.at ?_);refine Aa (Do (B5 ?_));unfold callGetattribute;rw [Cp,if_neg Ag];unfold boundAndCalled;rw [b1];refine Aa (Ai (Eh (Di F.excAttr_ValueError.ga.plain F.entry_bexc_ga (c.check_ok X p (c.entry_ok X p ?_)))));show wpAny _ _ (handedOut (.ref D)) _ _ _;exact PySem.W.handed_on rfl (Ai h)
theorem XK1.kitx (c:XK1 K D):PySem.W.KitX K (.ref x) (.ref D) (Jc x D):=by
 obtain ⟨cd,hc⟩:=D9.mp c.cl;have look:∃ a b cd' sl,K.lookup D=some ⟨a,b,.cls cd',sl⟩:=by
  unfold PySem.W.clsIn at hc;split at hc
  ·exact ⟨_,_,_,_,by assumption⟩
  ·cases hc
 obtain ⟨a,b,cd',sl,ho⟩:=look;refine ⟨fun M h _ p=>p.looks,fun M h X _ A' Q' E' s' k q=>?_,fun h tp dd its n sl X htp=>?_,fun X p k=>c.attr_ok X p k⟩
 ·unfold isType loadHead;exact Aa (wpAny_loadPart (k _ _ (X _ _ ho)) (Ai q))
 ·refine Bo.mpr fun q=>?_;have e:D=tp:=Value.ref.inj (Ax.mp q);subst e;have z:=(X _ _ ho).symm.trans htp;cases z
end
def qc4:V→Option Value
 | .ref a=>some (.ref a)
 | .ty n=>some (.type n)
 | _=>none
theorem Qb {x:V} {u v:Value} (e:qc4 x=some v) (r:qM x u):u=v:=by
 cases x with
 | ref a=>cases e;exact r
 | ty n=>cases e;exact r
 | _=>cases e
theorem Qc:∀ {xs:List V} {us vs:List Value},xs.mapM qc4=some vs→qP xs us→us=vs
 | [],_,_,e,.nil=>by cases e;rfl
 | x::r,_,vs,e,.cons h t=>by
  rw [List.mapM_cons] at e;cases q:qc4 x with
  | none=>rw [q] at e;cases e
  | some v=>
   rw [q] at e;cases q2:r.mapM qc4 with
   | none=>rw [q2] at e;cases e
   | some vs'=>
    rw [q2] at e;cases e;rw [Qb q h,Qc q2 t]
abbrev bmVE:List Value:=[.type "ValueError",.type "Exception",.type "BaseException",.type "object"]
def qj2 (K:Frag) (C:Addr):Prop:=∀ h:Heap,K.In h→∃ bm N nm q bs hdct sn sub ab col dd k0 k1 k2 k3 k5 mN,
 h.get? C=some (excClassObj nm q C N bs bm hdct sn sub ab col dd k0 k1 k2 k3 k5 "ValueError.__new__")∧h.Ns N mN∧mN "__init__"=none∧OwnTail h bmVE bm
def qfr (X:Cx) (C:Value) (R:Hp→Prop):Prop:=∀ (pins:List (Addr×Obj)) (σ:St) (H:Hp) (s:Shared) (h':Heap) (e:Addr) (vs:List Value),
 Inv X pins σ H s→Heap.MadeExcOf s.heap h' e C vs→R H→X.xe (.ref e) {s with heap:=h'}
def qic (t:TA) (R:Hp→Prop):TS:=fun _ σ H=>t σ H fun vs H1=>vs.length≤sizeLine∧R H1
theorem qei {X:Cx} {x:Str} {C:Addr} {R:Hp→Prop} {e:Expr} {es:List Expr} {t:TA} {np cpos pos:Pos} (hr:qfr X (.ref C) R) (O:qj2 X.K C) (hm:X.mg x=some (.ref C)) (ha:PA X (e::es) t) (hc:X.calm=true:=by rfl)
  (hg:Gl X x:=by rfl) (hdb:(x==("__debug__":Str))=false:=by decide) (he:starEach (e::es) X.env=(false,eval e X.env)::starEach es X.env:=by rfl) (hpl:(backTo cpos (starEach es X.env)).any (·.1)=false:=by rfl):
  PS X (.Raise (some (.Call (.Name x np) (e::es) [] cpos)) none pos) (qic t R):=by
 intro pins s σ H D I h;obtain ⟨bm,N,nm,q,bs,hdct,sn,sub,ab,col,dd,k0,k1,k2,k3,k5,mN,hC,hN,hni,T⟩:=O X.base I.mod.kin;refine wpAny_Raise_call_subT (C:=C) (nm:=nm) (q:=q) (N:=N) (bs:=bs) (bm:=bm) (hdct:=hdct) (sn:=sn) (sub:=sub) (ab:=ab) (col:=col) (dd:=dd) (k0:=k0) (k1:=k1) (k2:=k2) (k3:=k3) (k5:=k5) F.excBase_ValueError (mN:=mN) (T.hasType F.excBase_ValueError.hasBase) (I.ok.hd hc)
  (by rw [he];show (false||(backTo cpos (starEach es X.env)).any (·.1))=false;rw [hpl];rfl) hni (JD I hg hm ⟨rfl,?_⟩ hdb)
 have h2:=ha cpos pins s σ H _ I h;rw [he] at h2 ⊢;refine Eo (thn h2 fun vs s2 ⟨ws,H2,I2,r,z,q2⟩=>⟨rfl,by rw [← r.length];exact z,I2.bk _ _ hC,hN.keeps I2.bk,T.keeps I2.bk,fun h' e' m=>hr pins σ H2 s2 h' e' _ I2 m q2⟩)
section
variable {P:Program} {w:World} {K:Frag} {mg:Str→Option Value} {base:Heap} {N:List Str} {qual:Str} {scope:Scope} {f:Addr} {cd:Value} {A:Around} {outer:List Env} {s₀:Shared} {H₀:Hp} {E:XK}
theorem qgd {C:Value}:qfr (j4 (CX1 P w) P w K mg base N qual scope f cd A outer s₀ H₀ E) C (fun H=>E C none H):=by
 intro pins σ H s h' e vs I m q;show wpAny (model P w) (A.deeper (envOfC qual scope s₀.heap.objs.size f cd)) (leaving (envOfC qual scope s₀.heap.objs.size f cd) (.ref e)) (fun _ s''=>CX1 P w outer H₀ s₀ E (.ref e) s'') (fun e' s''=>CX1 P w outer H₀ s₀ E e' s'') {s with heap:=h'}
 have fc:frs (envOfC qual scope s₀.heap.objs.size f cd::outer)=s₀.heap.objs.size::frs outer:=yC rfl outer;have U1:Un (frs outer) [] H₀ H s₀.heap s.heap:=I.base;have stk:s.heap.FunFrames base (envOfC qual scope s₀.heap.objs.size f cd::outer):=I.stack;have fre:∀ b∈frs (envOfC qual scope s₀.heap.objs.size f cd::outer),H b=none:=I.stkFree;have hin:∀ env∈(envOfC qual scope s₀.heap.objs.size f cd::outer),∀ b,env.frame=some b→b∈frs (envOfC qual scope s₀.heap.objs.size f cd::outer):=fun env he b hb=>Ey.mpr ⟨env,he,hb⟩;refine wpAny_leaves_madeW (base:=PySem.W.hideAll s.heap (frs (envOfC qual scope s₀.heap.objs.size f cd::outer))) (h:=s.heap) I.ok.frames rfl (fun b o z=>PySem.W.of_hideAll _ z) (PySem.W.funFrames_hide stk hin) m fun h2 t fl _ _ sm=>?_;refine ⟨e,C,H,rfl,?_,q⟩;have nL:∀ b o,s₀.heap.get? b=some o→b≠s₀.heap.objs.size:=fun b o z=>A8 (Al z);have nf:∀ b o,s₀.heap.get? b=some o→b∉frs outer→b∉frs (envOfC qual scope s₀.heap.objs.size f cd::outer):=fun b o z hb y=>by
  rw [fc] at y;rcases Ap.mp y with y | y
  ·exact nL b o z y
  ·exact hb y
 have nt:∀ c v,H c=some v→c∉frs (envOfC qual scope s₀.heap.objs.size f cd::outer):=fun c v z y=>by
  rw [fre c y] at z;cases z
 have stay:∀ b o,s.heap.get? b=some o→b∉frs (envOfC qual scope s₀.heap.objs.size f cd::outer)→h2.get? b=some o:=fun b o z n=>fl.1 b o (Ea _ z n);have hd:∀ b∈frs outer,∀ o,s.heap.get? b=some o→∀ vs,o.data≠ .fields vs:=fun b hb o z vs=>by
  obtain ⟨_,o1,e1,d1⟩:=stk.mem (b:=b) (show b∈frs (envOfC qual scope s₀.heap.objs.size f cd::outer) by rw [fc];exact Am _ hb)
  rw [z] at e1;cases e1;exact d1 vs
 have slots:∀ b∈frs outer,∀ o,s.heap.get? b=some o→∃ sl,h2.get? b=some {o with slots:=sl}:=fun b hb o z=>sm b o (m.keeps b o z) (hd b hb o z)
 refine ⟨I.os,I.bare,⟨fun b o z n hb hx=>?_,fun b o z n hb hx=>?_,U1.free,fun b o z hx=>?_,U1.tups,U1.frzs,U1.tbls⟩,fun b u z=>?_,fun b hb=>fre b (by rw [fc];exact Am _ hb),_,_,fl,fun b o z y n=>?_⟩
 ·exact stay b o (U1.keep b o z n hb hx) (nf b o z hb)
 ·obtain ⟨sl,e1⟩:=U1.slot b o z n hb hx;obtain ⟨sl2,e2⟩:=slots b hb _ e1;exact ⟨sl2,e2⟩
 ·obtain ⟨o1,e1⟩:=U1.there b o z hx
  by_cases hb:b∈frs outer
  ·obtain ⟨sl2,e2⟩:=slots b hb _ e1;exact ⟨_,e2⟩
  ·exact ⟨o1,stay b o1 e1 (nf b o z hb)⟩
 ·refine (I.hok b u z).stay (fun c v hc y=>?_) (fun _ y=>y) fun _ _ y=>y;rcases hc with rfl | hc
  ·exact stay c v y (nt c _ z)
  ·exact stay c v y (nt c _ hc)
 ·have e0:∃ o1,s.heap.get? b=some o1∧b∉frs (envOfC qual scope s₀.heap.objs.size f cd::outer):=by
   rcases y with y | ⟨o0,y⟩
   ·cases q2:H b with
    | none=>exact absurd q2 y
    | some u=>
     obtain ⟨o1,e1⟩:=(I.hok b u q2).there;exact ⟨o1,e1,nt b u q2⟩
   ·obtain ⟨o1,e1⟩:=U1.there b o0 y (by simp)
    exact ⟨o1,e1,nf b o0 y n⟩
  obtain ⟨o1,e1,n1⟩:=e0;have e2:=stay b o1 e1 n1;have z':h2.get? b=some o:=z;rw [z'] at e2;cases e2;exact Ea _ e1 n1
theorem Fun.ok1 {x qual:Str} {st:Stmt} {f:Addr} {fd:FuncData} {N ps:List Str} {k:Nat} {sp:Sp} (F:Fun K x qual st f fd) (S:FnScope N ps (qj st)) (len:∀ vs H Q E,sp vs H Q E→vs.length=ps.length)
  (hbody:∀ (cdv:Value) (A:Around) (outer:List Env) (s:Shared) (H:Hp) (vs:List V) (Q:VK) (E:XK),Room k (A.deeper (envOfC qual (qj st) s.heap.objs.size f cdv))→sp vs H Q E→
   ∃ t,PSs (j4 (CX1 P w) P w K mg base N qual (qj st) f cdv A outer s H E) (jU st) t∧t {nx:=fun _ H'=>Q .non H',rt:=Q} (Jb N vs) H):FnOk P w K mg base (CX1 P w) (k+1) f fd ps sp:=by
 obtain ⟨oc,od,kV,doc,pm,an,cdv,ct,osl,rfl,lk,hcd⟩:=F.ex;exact qfc lk hcd S len fun A outer s H vs Q E hr hsp=>hbody cdv A outer s H vs Q E hr hsp
end
def vI (σ:St):St:=List.replicate σ.length none
theorem Y7 {σ:St} {i:Nat} {v:V} (h:(vI σ)[i]?=some (some v)):False:=by
 unfold vI at h;rw [List.getElem?_replicate] at h;split at h <;> cases h
theorem blank_len {σ:St}:(vI σ).length=σ.length:=List.length_replicate ..
abbrev Cx.more (X:Cx) (pins:List (Addr×Obj)):Cx:={X with pn:=X.pn++pins}
section
variable {X:Cx} {pins ps2:List (Addr×Obj)} {σ:St} {H:Hp} {s:Shared}
theorem Cx.Ok.more (ok:X.Ok) (pins:List (Addr×Obj)):(X.more pins).Ok:=
 ⟨ok.mod,ok.kind,ok.glob,ok.blt,ok.above,ok.inj,ok.has,ok.cab,ok.hd,ok.frames,ok.stk,ok.exf,ok.bs,ok.bsz,ok.noex,ok.exfs,ok.funs,ok.frf⟩
theorem Cx.Ok.less (ok:(X.more pins).Ok):X.Ok:=
 ⟨ok.mod,ok.kind,ok.glob,ok.blt,ok.above,ok.inj,ok.has,ok.cab,ok.hd,ok.frames,ok.stk,ok.exf,ok.bs,ok.bsz,ok.noex,ok.exfs,ok.funs,ok.frf⟩
theorem Inv.more (I:Inv X pins σ H s):Inv (X.more pins) [] σ H s:=
 ⟨I.ok.more pins,I.os,I.bare,I.base,I.loc,I.cell,I.free,I.freeC,fun p hp=>I.pin p (by simpa [Cx.more] using hp),I.hok,I.len⟩
theorem Inv.less (I:Inv (X.more pins) ps2 σ H s):Inv X pins σ H s:=
 ⟨I.ok.less,I.os,I.bare,I.base,I.loc,I.cell,I.free,I.freeC,fun p hp=>I.pin p (B7 _ hp),I.hok,I.len⟩
theorem SP.less {D:Ends} {f:Flow} {s':Shared} (h:SP (X.more pins) ps2 D f s'):SP X pins D f s':=by
 cases f with
 | next=>obtain ⟨σ',H',I,q⟩:=h;exact ⟨σ',H',I.less,q⟩
 | brk=>obtain ⟨σ',H',I,q⟩:=h;exact ⟨σ',H',I.less,q⟩
 | cont=>obtain ⟨σ',H',I,q⟩:=h;exact ⟨σ',H',I.less,q⟩
 | ret u=>obtain ⟨v,σ',H',I,r,q⟩:=h;exact ⟨v,σ',H',I.less,r,q⟩
abbrev Cx.suite (X:Cx) (ea:Addr):Cx:={X with A:=X.A.mark (some (.ref ea)),calm:=false,xe:=fun _ _=>False}
theorem Inv.suite (I:Inv X pins σ H s) (ea:Addr):Inv (X.suite ea) pins σ H s:=
 ⟨⟨I.ok.mod,I.ok.kind,I.ok.glob,I.ok.blt,I.ok.above,I.ok.inj,I.ok.has,I.ok.cab,fun z=>Bool.noConfusion z,I.ok.frames,I.ok.stk,I.ok.exf,I.ok.bs,I.ok.bsz,I.ok.noex,I.ok.exfs,I.ok.funs,I.ok.frf⟩,I.os,I.bare,I.base,I.loc,I.cell,I.free,I.freeC,I.pin,I.hok,I.len⟩
theorem Inv.unsuite (I0:X.Ok) {ea:Addr} (I:Inv (X.suite ea) pins σ H s):Inv X pins σ H s:=
 ⟨I0,I.os,I.bare,I.base,I.loc,I.cell,I.free,I.freeC,I.pin,I.hok,I.len⟩
theorem Inv.lost {h':Heap} {m':Str→Option Value} {t':Nat} (I:Inv X pins σ H s) (hn:h'.Ns X.env.locals m') (sb:Heap.SameBut X.env.locals s.heap h'):Inv X pins (vI σ) H {s with heap:=h',toks:=t'}:=by
 have ne0:∀ b o,X.s₀.heap.get? b=some o→b≠X.env.locals:=fun b o e=>A8 (Bi (Al e) I.ok.above);refine ⟨I.ok,I.os,I.bare,⟨fun b o e n hb hx=>(sb.2 b (ne0 b o e)).trans (I.base.keep b o e n hb hx),fun b o e n hb hx=>?_,I.base.free,fun b o e hx=>?_,I.base.tups,I.base.frzs,I.base.tbls⟩,⟨m',hn,fun i x v _ e _=>(Y7 e).elim⟩,fun x c e=>?_,I.free,I.freeC,fun p hp=>?_,fun b u e=>?_,by rw [blank_len];exact I.len⟩
 ·obtain ⟨sl,e1⟩:=I.base.slot b o e n hb hx;exact ⟨sl,(sb.2 b (ne0 b o e)).trans e1⟩
 ·obtain ⟨o',e1⟩:=I.base.there b o e hx;exact ⟨o',(sb.2 b (ne0 b o e)).trans e1⟩
 ·obtain ⟨v,z⟩:=I.cell x c e;exact ⟨v,z.sameBut sb (I.cne x c e)⟩
 ·obtain ⟨e,n,ne,nf,d⟩:=I.pin p hp;exact ⟨(sb.2 p.1 ne).trans e,n,ne,nf,d⟩
 ·have nl:∀ c v,H c=some v→c≠X.env.locals:=fun c v q z=>by rw [z,I.free] at q;cases q
  refine (I.hok b u e).stay (fun c v hc q=>(sb.2 c ?_).trans q) (fun _ q=>q) fun _ _ q=>q;rcases hc with rfl | hc
  ·exact nl c _ e
  ·exact nl c _ hc
theorem Inv.trackN {D:Addr} {o:HO} (I:Inv X pins σ H s) (h0:H D=none) (hL:D≠X.env.locals) (hs:X.s₀.heap.get? D=none) (hc:∀ x c,X.env.cells.lookup x=some c→c≠D) (hp:∀ p∈X.pn++pins,p.1≠D)
  (new:zd X.prog X.w (upd H D o) s.heap D o):Inv X pins σ (upd H D o) s:=by
 have nD:∀ b u,H b=some u→b≠D:=fun b u q=>qx q h0;refine ⟨I.ok,I.os,I.bare,⟨I.base.keep,I.base.slot,fun b ob e n hx=>?_,I.base.there,fun b xs e=>?_,fun b ob u e=>?_,fun b ps e=>?_⟩,I.loc,I.cell,by rw [qm (Ne.symm hL)];exact I.free,fun x c e=>by rw [qm (hc x c e)];exact I.freeC x c e,fun p hpp=>?_,fun b u e=>?_,I.len⟩
 ·rw [qm (fun z=>by rw [z,hs] at e;cases e)]
  exact I.base.free b ob e n hx
 ·have q:=I.base.tups b xs e;rw [qm (nD _ _ q)];exact q
 ·have q:=I.base.frzs b ob u e;rw [qm (nD _ _ q)];exact q
 ·obtain ⟨mo,q⟩:=I.base.tbls b ps e;exact ⟨mo,by rw [qm (nD _ _ q)];exact q⟩
 ·obtain ⟨e,n,r⟩:=I.pin p hpp;exact ⟨e,by rw [qm (hp p hpp)];exact n,r⟩
 ·by_cases hb:b=D
  ·subst hb;rw [upd_same] at e;cases e;exact new
  ·rw [qm hb] at e;exact (I.hok b u e).stay (fun c v _ q=>q) (fun c q=>by rw [qm (nD _ _ q)];exact q) fun c xs q=>by rw [qm (nD _ _ q)];exact q
end
section
variable {X:Cx} {K:Frag} {e o:Expr} {es:List Expr} {te to:TE} {st:Stmt} {rest:List Stmt} {t u:TS} {pos apos cpos:Pos}
theorem yx (hK:X.K=K):OpR X (compareOp .In) (rIn K false):=hK▸qcc
theorem ZP (hK:X.K=K):OpR X (compareOp .NotIn) (rIn K true):=hK▸Xu
end
structure DefX (P:Program) (w:World) (K:Frag) (mg:Str→Option Value) (base:Heap) (k:Nat) (x:Str) (ps:List Str) (sp:Sp):Prop where
 ex:∃ (f:Addr) (fd:FuncData),FnOk P w K mg base (CX1 P w) k f fd ps sp∧Jd K fd ps []∧PySem.W.keepIn K (.ref f)=true∧mg x=some (.ref f)
theorem qgw {X:Cx} {k:Nat} {x:Str} {ps:List Str} {sp:Sp} {E:XK} {e:Expr} {es:List Expr} {t:TA} {p pos:Pos} (D:DefX X.prog X.w X.K X.mg X.base k x ps sp) (hr:Room k X.A) (hx:Jt (CX1 X.prog X.w) X E) (ha:PA X (e::es) t) (hg:Gl X x:=by rfl)
  (hdb:(x==("__debug__":Str))=false:=by decide) (he:starEach (e::es) X.env=(false,eval e X.env)::starEach es X.env:=by rfl) (hpl:(backTo pos (starEach es X.env)).any (·.1)=false:=by rfl):
  PE X (.Call (.Name x p) (e::es) [] pos) (qE sp [] E t):=by
 obtain ⟨f,fd,F,B,kp,m⟩:=D.ex;exact Xr F hr hg m kp B .nil hx ha hdb he hpl
theorem qku {X:Cx}:Jt (CX1 X.prog X.w) X E0:=fun _ _ _ _ _ _ _ h=>by
 obtain ⟨_,_,_,_,_,q⟩:=h;exact q.elim
theorem qfv {K:Frag} {C:Addr} (q:PySem.W.excIn K C bmVE "ValueError.__new__"=true):qj2 K C:=by
 intro h X;unfold PySem.W.excIn at q;split at q
 case h_2=>cases q
 rename_i dd cd sl ho;split at q
 case h_2=>cases q
 rename_i C' bm k0 k1 k2 k3 n k5 hm hs;simp only [Ae,Ax,D4] at q;obtain ⟨⟨⟨⟨⟨e1,e2⟩,hdel⟩,ht⟩,hok⟩,hni⟩:=q;subst e1 e2;obtain ⟨nm,bs,mro,ns,qn,hd,sn,sub,ab,col,del⟩:=cd;dsimp only at hm hdel hok hni;subst hm hdel;have e3:sl= #[k0,k1,k2,k3,some (.builtin "ValueError.__new__"),k5]:=Array.ext' (by simpa using hs)
 subst e3;exact ⟨bm,ns,nm,qn,bs,hd,sn,sub,ab,col,dd,k0,k1,k2,k3,k5,_,X _ _ ho,.of_isNs (PySem.W.isNs_of_in X hok),PySem.W.nsMap_none_of_in X hok hni,PySem.W.tail_of_in X ht⟩
theorem Yk:bootBuiltins "ValueError"=some (.type "ValueError"):=∅
inductive EntsAre (p:Params):List DictEntry→List (Str×Value)→Prop
 | nil:EntsAre p [] []
 | cons {x:Str} {t:Tok} {v:Value} {es:List DictEntry} {r:List (Str×Value)}:EntsAre p es r→EntsAre p (⟨PyData.keyHash p x,.str x t,v⟩::es) ((x,v)::r)
def qbm (P:Program) (w:World) (K:Frag) (a:Addr) (kvs:List (Str×Value)):Prop:=∀ h:Heap,K.In h→h.DictOf (ze P w) a (kvs.map fun e=>((Sum.inr e.1:Key),e.2))
section
variable {P:Program} {w:World} {K:Frag} {a:Addr}
theorem Y1 {p:Params}:∀ {es:List DictEntry} {kvs:List (Str×Value)},EntsAre p es kvs→∀ e∈es,∃ x t,e.key= .str x t∧e.hash=PyData.keyHash p x
 | _,_,.nil,e,he=>by cases he
 | _,_,.cons (x:=x) (t:=t) h,e,he=>by
  rcases Ap.mp he with rfl | he
  ·exact ⟨x,t,rfl,rfl⟩
  ·exact Y1 h e he
theorem yI {p:Params}:∀ {es:List DictEntry} {kvs:List (Str×Value)},EntsAre p es kvs→Pairs (ze P w) es (kvs.map fun e=>((Sum.inr e.1:Key),e.2))
 | _,_,.nil=> .nil
 | _,_,.cons (x:=x) (t:=t) h=> .cons (vV x t) rfl (yI h)
theorem yn {es:List DictEntry} {n:Nat} {kvs:List (Str×Value)} (l:K.lookup a=some {cls:= .type "dict",data:= .dict es.toArray n}) (e:EntsAre w.params es kvs) (nd:(kvs.map (·.1)).Nodup):qbm P w K a kvs:=by
 intro h X;refine ⟨_,es.toArray,n,X _ _ l,⟨rfl,rfl,rfl⟩,rfl,fun en hen=>?_,by simpa using yI e,?_⟩
 ·obtain ⟨x,t,e1,e2⟩:=Y1 e en (by simpa using hen)
  refine ⟨Sum.inr x,?_,?_⟩
  ·rw [e1];exact vV x t
  ·rw [e2];rfl
 ·rw [Bu];have:(((·.1):Key×Value→Key) ∘ fun e:Str×Value=>((Sum.inr e.1:Key),e.2))=(Sum.inr:Str→Key) ∘ (·.1):=rfl;rw [this,← Bu];exact (List.pairwise_map.mpr (nd.imp fun hne z=>hne (Sum.inr.inj z)))
theorem Zi:∀ (kvs:List (Str×Value)) (x:Str),valueAt (kvs.map fun e=>((Sum.inr e.1:Key),e.2)) (Sum.inr x)=(kvs.find? fun e=>decide (e.1=x)).map (·.2)
 | [],_=>rfl
 | (y,v)::r,x=>by
  have ih:=Zi r x;unfold valueAt at ih ⊢;rw [Ba,C1,C1]
  by_cases h:y=x
  ·subst h;simp
  ·have h1:¬ (Sum.inr y:Key)=Sum.inr x:=fun z=>h (Sum.inr.inj z);simp only [As h1,As h];exact ih
end
inductive TabT (K:Frag):List (Str×List Str)→List (Str×Value)→Prop
 | nil:TabT K [] []
 | cons {x:Str} {l:List Str} {a:Addr} {T:List (Str×List Str)} {r:List (Str×Value)}:(∀ H:Hp,SqT K H a (l.map V.str))→TabT K T r→TabT K ((x,l)::T) ((x,.ref a)::r)
inductive TabS:List (Str×Str)→List (Str×Value)→Prop
 | nil:TabS [] []
 | cons {x y:Str} {t:Tok} {T:List (Str×Str)} {r:List (Str×Value)}:TabS T r→TabS ((x,y)::T) ((x,.str y t)::r)
theorem TabT.get {K:Frag}:∀ {T:List (Str×List Str)} {r:List (Str×Value)} {x:Str} {l:List Str},TabT K T r→T.lookup x=some l→∃ a,(r.find? fun e=>decide (e.1=x)).map (·.2)=some (.ref a)∧∀ H:Hp,SqT K H a (l.map V.str)
 | _,_,_,_,.nil,e=>by cases e
 | _,_,x,l,.cons (x:=y) (a:=a) h t,e=>by
  rw [Bx] at e
  by_cases hx:y=x
  ·subst hx;simp only [beq_self_eq_true] at e;cases e;exact ⟨a,by simp,h⟩
  ·have:(x==y)=false:=by simpa using fun z=>hx z.symm
   rw [this] at e;obtain ⟨b,h1,h2⟩:=TabT.get t e;exact ⟨b,by rw [C1,As hx];exact h1,h2⟩
theorem TabS.get:∀ {T:List (Str×Str)} {r:List (Str×Value)} {x y:Str},TabS T r→T.lookup x=some y→∃ t,(r.find? fun e=>decide (e.1=x)).map (·.2)=some (.str y t)
 | _,_,_,_,.nil,e=>by cases e
 | _,_,x,y,.cons (x:=z) (t:=t) h,e=>by
  rw [Bx] at e
  by_cases hx:z=x
  ·subst hx;simp only [beq_self_eq_true] at e;cases e;exact ⟨t,by simp⟩
  ·have:(x==z)=false:=by simpa using fun q=>hx q.symm
   rw [this] at e;obtain ⟨u,h1⟩:=TabS.get h e;exact ⟨u,by rw [C1,As hx];exact h1⟩
def qdq (K:Frag) (T:List (Str×List Str)) (ti:TE):TE:=fun σ H Q=>ti σ H fun y H1=>∃ x l,y= .str x∧T.lookup x=some l∧∀ a,(∀ H:Hp,SqT K H a (l.map V.str))→Q (.ref a) H1
def qj8 (T:List (Str×Str)) (ti:TE):TE:=fun σ H Q=>ti σ H fun y H1=>∃ x z,y= .str x∧T.lookup x=some z∧Q (.str z) H1
structure KTabT (P:Program) (w:World) (K:Frag) (mg:Str→Option Value) (nm:Str) (T:List (Str×List Str)):Prop where
 ex:∃ (a:Addr) (kvs:List (Str×Value)),mg nm=some (.ref a)∧qbm P w K a kvs∧TabT K T kvs
structure KTabS (P:Program) (w:World) (K:Frag) (mg:Str→Option Value) (nm:Str) (T:List (Str×Str)):Prop where
 ex:∃ (a:Addr) (kvs:List (Str×Value)),mg nm=some (.ref a)∧qbm P w K a kvs∧TabS T kvs
section
variable {X:Cx} {K:Frag} {nm:Str} {np pos:Pos} {i:Expr} {ti:TE}
theorem Zk {pins:List (Addr×Obj)} {σ:St} {H:Hp} {s:Shared} {a:Addr} {kvs:List (Str×Value)} {x:Str} {v u:Value} {Q:Value→Shared→Prop} {A:Around} {E:Value→Shared→Prop} (I:Inv X pins σ H s) (D:qbm X.prog X.w X.K a kvs) (r:qM (.str x) u)
  (hv:(kvs.find? fun e=>decide (e.1=x)).map (·.2)=some v) (h:Q v {s with toks:=s.toks+1}):wpAny (model X.prog X.w) A (getItem (.ref a) u) Q E s:=by
 obtain ⟨t,rfl⟩:=r;exact wpAny_getItem_of (knd:=ze X.prog X.w) (k:=Sum.inr x) (vV x t) (D _ I.kIn).mapOf ((Zi kvs x).trans hv) h
theorem Xq {T:List (Str×List Str)} (hK:X.K=K) (D:KTabT X.prog X.w X.K X.mg nm T) (hi:PE X i ti) (hs:qhl i) (hg:Gl X nm:=by rfl) (hd:(nm==("__debug__":Str))=false:=by decide):PE X (.Subscript (.Name nm np) i pos) (qdq K T ti):=by
 subst hK;obtain ⟨a,kvs,hm,kd,tb⟩:=D.ex;intro pins s σ H Q I h;refine Xh PySem.F.slot_dict_getitem.lookup hs (JD I hg hm (thn (hi pins s σ H _ I h) fun u s1 ⟨y,H1,I1,r1,x,l,e,hl,q1⟩=>?_) hd);subst e;obtain ⟨b,h1,h2⟩:=tb.get hl;exact ⟨(kd _ I1.kIn).mapOf.typeIs,Zk I1 kd r1 h1 ⟨.ref b,H1,I1.tok _,rfl,q1 b h2⟩⟩
theorem qgt {T:List (Str×Str)} (D:KTabS X.prog X.w X.K X.mg nm T) (hi:PE X i ti) (hs:qhl i) (hg:Gl X nm:=by rfl) (hd:(nm==("__debug__":Str))=false:=by decide):PE X (.Subscript (.Name nm np) i pos) (qj8 T ti):=by
 obtain ⟨a,kvs,hm,kd,tb⟩:=D.ex;intro pins s σ H Q I h;refine Xh PySem.F.slot_dict_getitem.lookup hs (JD I hg hm (thn (hi pins s σ H _ I h) fun u s1 ⟨y,H1,I1,r1,x,z,e,hl,q1⟩=>?_) hd);subst e;obtain ⟨t,h1⟩:=tb.get hl;exact ⟨(kd _ I1.kIn).mapOf.typeIs,Zk I1 kd r1 h1 ⟨.str z,H1,I1.tok _,⟨t,rfl⟩,q1⟩⟩
end
theorem zA {K:Frag} {a:Addr} {its:List Value} {n:Nat} {l:List Str} (h:K.lookup a=some {cls:= .type "tuple",data:= .seq its.toArray n}) (v:qP (l.map V.str) its) (hz:its.length≤1000):∀ H:Hp,SqT K H a (l.map V.str):=
 fun _=> .inr ⟨_,its.toArray,n,h,rfl,rfl,by rw [Ar];exact Av hz O0,by simpa using v⟩
section
variable {prog:Program} {w:World} {A:Around} {E:Value→Shared→Prop} {s:Shared}
theorem Vw {it t:Addr} {i:Nat} {qr:Array Value} {x:Value} {Q:Value→Shared→Prop} (hit:s.heap.IsTupleIter it t i) (ht:s.heap.IsTuple t qr) (hx:qr[i]?=some x)
  (hQ:∀ h',h'.IsTupleIter it t (i+1)→Heap.SameBut it s.heap h'→Q x {s with heap:=h'}):wpAny (model prog w) A (Builtin.SmallTypes.nextOf (.ref it)) Q E s:=by
 obtain ⟨o,ho,hc,hd⟩:=id hit;obtain ⟨ol,hol,_,nl,hdl⟩:=ht;unfold Builtin.SmallTypes.nextOf;refine Aa (Cq (name:=Str.ofString "__next__") hit.typeIs D0 (Ck D0 hit.typeIs F.entry_tuple_iterator_next ?_ (F.args_tuple_iterator_next_1 _)));show wpAny _ _ (field (.ref it) 0>>=_) _ _ s;refine Aa (Bs ho hd (x:= .ref t) rfl ?_);show wpAny _ _ (if (Value.ref t==Value.none)=true then _ else _) _ _ s;rw [if_neg (show ¬ ((Value.ref t==Value.none)=true) from Ag)]
 show wpAny _ _ (field (.ref it) 1>>=_) _ _ s;refine Aa (Bs ho hd (x:= .int i 0) rfl ?_);show wpAny _ _ (seqItems? (.ref t)>>=_) _ _ s;refine Aa (Df hol hdl ?_);simp only [Int.toNat_natCast,hx];refine Aa (Dr ho hd (by simp) (Ai ⟨x,rfl,Ai (hQ _ ⟨_,Cb _ ho (En (C3 hd _)),(Obj.cls_mapFields ..).trans hc,?_⟩ (Heap.SameBut.update ..))⟩))
 rw [C3 hd];simp [rawInt]
theorem YQ {it t:Addr} {i:Nat} {qr:Array Value} {Q:Value→Shared→Prop} (hh:A.handled=none) (hit:s.heap.IsTupleIter it t i) (ht:s.heap.IsTuple t qr) (hx:qr[i]?=none)
  (hE:∀ h' e,Heap.ExtBut it s.heap h'→(∃ o,h'.get? e=some o∧o.cls= .type "StopIteration")→E (.ref e) {s with heap:=h'}):wpAny (model prog w) A (Builtin.SmallTypes.nextOf (.ref it)) Q E s:=by
 obtain ⟨o,ho,hc,hd⟩:=id hit;obtain ⟨ol,hol,_,nl,hdl⟩:=ht;unfold Builtin.SmallTypes.nextOf;refine Aa (Cq (name:=Str.ofString "__next__") hit.typeIs D0 (Ck D0 hit.typeIs F.entry_tuple_iterator_next ?_ (F.args_tuple_iterator_next_1 _)));show wpAny _ _ (field (.ref it) 0>>=_) _ _ s;refine Aa (Bs ho hd (x:= .ref t) rfl ?_);show wpAny _ _ (if (Value.ref t==Value.none)=true then _ else _) _ _ s;rw [if_neg (show ¬ ((Value.ref t==Value.none)=true) from Ag)]
 show wpAny _ _ (field (.ref it) 1>>=_) _ _ s;refine Aa (Bs ho hd (x:= .int i 0) rfl ?_);show wpAny _ _ (seqItems? (.ref t)>>=_) _ _ s;refine Aa (Df hol hdl ?_);simp only [Int.toNat_natCast,hx];refine Aa (Fa (Aa (Dr ho hd (by simp) ?_)));show wpAny _ _ (newExc (.type "StopIteration") []>>=_) _ _ _
 refine Aa ?_;simp only [newExc,newTuple];refine Aa (Cj ?_ (by size_fits))
 refine Aa (m:=firstArgMember _ _) (C6 (a:=Value.none) (by first | rfl | (simp only [firstArgMember];rfl)) ?_);refine Cj ?_ (by size_fits)
 simp only [raiseNew];refine Aa (wpAny_handled ?_);first | rw [show A.in1.handled=none from hh] | rw [hh]
 refine Aa (Ai (wpAny_throw (hE _ _ (((Heap.SameBut.update ..).extBut.push _).push _) ⟨_,Aw _ rfl,rfl⟩)))
structure ZipAt (z TI TO i1 i2 l1 l2:Addr) (i:Nat) (h:Heap):Prop where
 hz:IsZip h z TI TO .none
 hTI:IsPair h TI (.ref i1) (.ref i2)
 hTO:∃ a b,IsPair h TO a b
 h1:h.IsTupleIter i1 l1 i
 h2:h.IsTupleIter i2 l2 i
theorem qbn {z TI TO i1 i2 l1 l2:Addr} {i:Nat} {xs ys:Array Value} {x y:Value} {Q:Option Value→Shared→Prop} (D:ZipApart z TI TO i1 i2 l1 l2) (Z:ZipAt z TI TO i1 i2 l1 l2 i s.heap)
  (hl1:s.heap.IsTuple l1 xs) (hl2:s.heap.IsTuple l2 ys) (hx:xs[i]?=some x) (hy:ys[i]?=some y)
  (hQ:∀ h',IsZip h' z TI TO (rawInt s.heap.objs.size)→IsPair h' TO x y→h'.IsTupleIter i1 l1 (i+1)→h'.IsTupleIter i2 l2 (i+1)→IsPair h' s.heap.objs.size x y→h'.objs.size=s.heap.objs.size+1→
   (∀ c o,c≠z→c≠TO→c≠i1→c≠i2→s.heap.get? c=some o→h'.get? c=some o)→Q (some (.ref s.heap.objs.size)) {s with heap:=h'}):
  wpAny (model prog w) A (pyNext (.ref z)) Q E s:=by
 obtain ⟨hz,hTI,⟨a,b,hTO⟩,h1,h2⟩:=Z;have hT:s.TypeIs (.ref z) "zip":=⟨_,hz,rfl⟩;unfold pyNext;refine Aa (Do (Cq (name:=Str.ofString "__next__") hT F.slot_zip_next (Ck F.slot_zip_next hT F.entry_zip_next ?_ (F.args_zip_next_1 _))));show wpAny _ _ (field (.ref z) 2>>=_) _ _ _;refine Aa (Bs hz rfl (x:= .bool false) rfl ?_);show wpAny _ _ (field (.ref z) 3>>=_) _ _ _;refine Aa (Bs hz rfl (x:= .ref TI) rfl ?_);refine Aa (Df hTI rfl ?_);show wpAny _ _ (Builtin.SmallTypes.ownedTupleIsFree (.ref z)>>=_) _ _ _;refine Aa ?_;unfold Builtin.SmallTypes.ownedTupleIsFree;refine Aa (Bs hz rfl (x:= .none) rfl (Ai ?_));simp only [if_true];refine Aa (Fa ?_);refine Aa (Bs hz rfl (x:= .ref TO) rfl ?_);refine Aa (Du hz (by simp) fun g1 hz1 s1=>?_)
 replace hz1:IsZip g1 z TI TO .ellipsis:=hz1
 refine Aa ?_;simp only [List.zipIdx_cons,List.zipIdx_nil,Ew,List.forIn_nil];refine Aa (Aa (wpAny_onRaise ?_));show wpAny _ _ (Builtin.SmallTypes.nextOf (.ref i1)>>=_) _ _ _;refine Aa (Vw (h1.extBut s1.extBut D.i1z) (hl1.extBut s1.extBut D.l1z) hx fun g2 k2 s2=>Ai ?_);have hTO2:IsPair g2 TO a b:=s2.extBut _ _ D.TOi1 (s1.extBut _ _ D.TOz hTO);refine Aa (Df hTO2 rfl ?_);refine Aa (wpAny_updateSeq_pair hTO2 fun g3 hTO3 s3=>?_)
 replace hTO3:IsPair g3 TO x b:=hTO3
 refine Aa (wpAny_letGo (Ai ?_));refine Aa (Aa (wpAny_onRaise ?_));show wpAny _ _ (Builtin.SmallTypes.nextOf (.ref i2)>>=_) _ _ _;refine Aa (Vw (((h2.extBut s1.extBut D.i2z).extBut s2.extBut D.i12.symm).extBut s3.extBut D.TOi2.symm) (((hl2.extBut s1.extBut D.l2z).extBut s2.extBut D.l2i1).extBut s3.extBut D.l2TO) hy fun g4 k4 s4=>Ai ?_);have hTO4:IsPair g4 TO x b:=s4.extBut _ _ D.TOi2 hTO3;refine Aa (Df hTO4 rfl ?_);refine Aa (wpAny_updateSeq_pair hTO4 fun g5 hTO5 s5=>?_)
 replace hTO5:IsPair g5 TO x y:=hTO5
 refine Aa (wpAny_letGo (Ai (Ai ?_)));refine Aa (Df hTO5 rfl ?_);refine Aa (wpAny_newTuple ?_);have e5:g5.objs.size=s.heap.objs.size:=by rw [s5.1,s4.1,s3.1,s2.1,s1.1]
 have z5:IsZip g5 z TI TO .ellipsis:=s5.extBut _ _ D.TOz.symm (s4.extBut _ _ D.i2z.symm (s3.extBut _ _ D.TOz.symm (s2.extBut _ _ D.i1z.symm hz1)));have k5:∀ c o,c≠z→c≠TO→c≠i1→c≠i2→s.heap.get? c=some o→g5.get? c=some o:=fun c o c1 c2 c3 c4 e=>s5.extBut _ _ c2 (s4.extBut _ _ c4 (s3.extBut _ _ c2 (s2.extBut _ _ c3 (s1.extBut _ _ c1 e))));have m1:g5.IsTupleIter i1 l1 (i+1):=((k2.extBut s3.extBut D.TOi1.symm).extBut s4.extBut D.i12).extBut s5.extBut D.TOi1.symm;have m2:g5.IsTupleIter i2 l2 (i+1):=k4.extBut s5.extBut D.TOi2.symm;have zlt:z<g5.objs.size:=Al z5;show wpAny _ _ (Builtin.SmallTypes.ownedTupleHandOut (.ref z) (.ref g5.objs.size)>>=_) _ _ _;refine Aa ?_;unfold Builtin.SmallTypes.ownedTupleHandOut;have z6:IsZip (g5.push {cls:= .type "tuple",data:= .seq #[x,y]}) z TI TO .ellipsis:=Af _ z5;refine Aa (Du z6 (by simp) fun g7 z7 s7=>?_)
 replace z7:IsZip g7 z TI TO (rawInt g5.objs.size):=z7
 refine Du z7 (by simp) fun g8 z8 s8=>?_
 replace z8:IsZip g8 z TI TO (rawInt g5.objs.size):=z8
 have up:∀ c o,c≠z→g5.get? c=some o→g8.get? c=some o:=fun c o c1 e=>s8.extBut _ _ c1 (s7.extBut _ _ c1 (Af _ e));have t8:IsPair g8 g5.objs.size x y:=s8.extBut _ _ (Cv zlt) (s7.extBut _ _ (Cv zlt) (Aw _ rfl));have n8:g8.objs.size=g5.objs.size+1:=by rw [s8.1,s7.1,Cy]
 rw [e5] at z8 t8 n8;refine Ai ⟨_,rfl,?_⟩;refine Ai ?_;show Q (some (.ref g5.objs.size)) _;rw [e5];exact hQ g8 z8 (up _ _ D.TOz hTO5) (m1.at fun o e=>up _ o D.i1z e) (m2.at fun o e=>up _ o D.i2z e) t8 n8 fun c o c1 c2 c3 c4 e=>up c o c1 (k5 c o c1 c2 c3 c4 e)
theorem qdh {z TI TO i1 i2 l1 l2:Addr} {i:Nat} {xs ys:Array Value} {Q:Option Value→Shared→Prop} (hh:A.handled=none) (D:ZipApart z TI TO i1 i2 l1 l2) (Z:ZipAt z TI TO i1 i2 l1 l2 i s.heap)
  (hl1:s.heap.IsTuple l1 xs) (hl2:s.heap.IsTuple l2 ys) (hend:xs[i]?=none∨ys[i]?=none)
  (hQ:∀ h',(∀ c o,c≠z→c≠TO→c≠i1→c≠i2→s.heap.get? c=some o→h'.get? c=some o)→Q none {s with heap:=h'}):wpAny (model prog w) A (pyNext (.ref z)) Q E s:=by
 obtain ⟨hz,hTI,⟨a,b,hTO⟩,h1,h2⟩:=Z;have hT:s.TypeIs (.ref z) "zip":=⟨_,hz,rfl⟩;unfold pyNext;have fin:∀ h' e,(∀ c o,c≠z→c≠TO→c≠i1→c≠i2→s.heap.get? c=some o→h'.get? c=some o)→(∃ o,h'.get? e=some o∧o.cls= .type "StopIteration")→
   wpAny (model prog w) A (do if ← isInstance (.ref e) (.type "StopIteration") then pure none else throw (.ref e)) Q E {s with heap:=h'}:=fun h' e hk ⟨o,ho,hc⟩=>
  Aa (Es (T:="StopIteration") (b:=true) ⟨o,ho,hc⟩ isSubtype_stop (Ai (hQ _ hk)))
 refine Aa (Do (Cq (name:=Str.ofString "__next__") hT F.slot_zip_next (Ck F.slot_zip_next hT F.entry_zip_next ?_ (F.args_zip_next_1 _))));show wpAny _ _ (field (.ref z) 2>>=_) _ _ _;refine Aa (Bs hz rfl (x:= .bool false) rfl ?_);show wpAny _ _ (field (.ref z) 3>>=_) _ _ _;refine Aa (Bs hz rfl (x:= .ref TI) rfl ?_);refine Aa (Df hTI rfl ?_);show wpAny _ _ (Builtin.SmallTypes.ownedTupleIsFree (.ref z)>>=_) _ _ _;refine Aa ?_;unfold Builtin.SmallTypes.ownedTupleIsFree;refine Aa (Bs hz rfl (x:= .none) rfl (Ai ?_));simp only [if_true];refine Aa (Fa ?_);refine Aa (Bs hz rfl (x:= .ref TO) rfl ?_);refine Aa (Du hz (by simp) fun g1 hz1 s1=>?_)
 replace hz1:IsZip g1 z TI TO .ellipsis:=hz1
 refine Aa ?_;simp only [List.zipIdx_cons,List.zipIdx_nil,Ew,List.forIn_nil];refine Aa (Aa (wpAny_onRaise ?_));show wpAny _ _ (Builtin.SmallTypes.nextOf (.ref i1)>>=_) _ _ _;cases hx:xs[i]? with
 | none=>
  refine Aa (YQ hh (h1.extBut s1.extBut D.i1z) (hl1.extBut s1.extBut D.l1z) hx fun g2 e s2 he=>?_);obtain ⟨oe,hoe,hce⟩:=he;have z2:IsZip g2 z TI TO .ellipsis:=s2 _ _ D.i1z.symm hz1;have ez:e≠z:=fun q=>by subst q;rw [z2] at hoe;cases hoe;simp at hce
  exact Du z2 (by simp) fun g3 _ s3=>fin g3 e (fun c o c1 _ c3 _ q=>s3.extBut _ _ c1 (s2 _ _ c3 (s1.extBut _ _ c1 q))) ⟨oe,s3.extBut _ _ ez hoe,hce⟩
 | some x=>
  have hy:ys[i]?=none:=by rcases hend with h | h;rw [hx] at h;cases h;exact h
  refine Aa (Vw (h1.extBut s1.extBut D.i1z) (hl1.extBut s1.extBut D.l1z) hx fun g2 k2 s2=>Ai ?_);have hTO2:IsPair g2 TO a b:=s2.extBut _ _ D.TOi1 (s1.extBut _ _ D.TOz hTO);refine Aa (Df hTO2 rfl ?_);refine Aa (wpAny_updateSeq_pair hTO2 fun g3 hTO3 s3=>?_);refine Aa (wpAny_letGo (Ai ?_));refine Aa (Aa (wpAny_onRaise ?_));show wpAny _ _ (Builtin.SmallTypes.nextOf (.ref i2)>>=_) _ _ _;refine Aa (YQ hh (((h2.extBut s1.extBut D.i2z).extBut s2.extBut D.i12.symm).extBut s3.extBut D.TOi2.symm) (((hl2.extBut s1.extBut D.l2z).extBut s2.extBut D.l2i1).extBut s3.extBut D.l2TO) hy fun g4 e s4 he=>?_);obtain ⟨oe,hoe,hce⟩:=he;have z4:IsZip g4 z TI TO .ellipsis:=s4 _ _ D.i2z.symm (s3.extBut _ _ D.TOz.symm (s2.extBut _ _ D.i1z.symm hz1));have ez:e≠z:=fun q=>by subst q;rw [z4] at hoe;cases hoe;simp at hce
  exact Du z4 (by simp) fun g5 _ s5=>fin g5 e (fun c o c1 c2 c3 c4 q=>s5.extBut _ _ c1 (s4 _ _ c4 (s3.extBut _ _ c2 (s2.extBut _ _ c3 (s1.extBut _ _ c1 q))))) ⟨oe,s5.extBut _ _ ez hoe,hce⟩
end
section
variable {X:Cx} {pins:List (Addr×Obj)} {σ:St} {H:Hp} {s:Shared} {h':Heap}
theorem Inv.turns {t':Nat} {ch:List Addr} (I:Inv X pins σ H s) (hf:∀ b∈ch,V5 X pins H b) (k:∀ b o,b∉ch→s.heap.get? b=some o→h'.get? b=some o):Inv X pins σ H {s with heap:=h',toks:=t'}:=by
 have nit:∀ b u,H b=some u→b∉ch:=fun b u e z=>by rw [(hf b z).1] at e;cases e
 refine I.step (g':=s.gens) (d':=s.drawn) (ch:=ch) (fun b hb=>?_) (fun b o _ _ hc e _=>k b o hc e) (fun b o _ _ hc e _=>⟨o.slots,k b o hc e⟩) (fun _ _ _ _ n=>n)
  (fun b o hc e=>⟨o,k b o hc e⟩) (fun _ _ e=>e) (fun _ _ _ e=>e) (fun b ps e=>⟨#[],by rw [e];simp⟩) (fun m hm=>?_) (fun b u e=>?_) I.bare
 ·obtain ⟨_,f1,_,f3,f4,f5⟩:=hf b hb;exact ⟨f3,f1,f4,f5⟩
 ·obtain ⟨o,es,ep,ho,r⟩:=hm;exact ⟨o,es,ep,k _ o (fun z=>(hf _ z).2.1 rfl) ho,r⟩
 ·refine (I.hok b u e).stay (fun c v hc q=>k c v ?_ q) (fun _ q=>q) fun _ _ q=>q;rcases hc with z | z
  ·rw [z];exact nit b u e
  ·exact nit c _ z
end
def Itz (K:Frag) (a b:Addr):It:=
 ⟨fun i H=>∃ xs ys x y,SqT K H a xs∧SqT K H b ys∧xs[i]?=some x∧ys[i]?=some y,
  fun i H v H'=>∃ p x y,H p=none∧v= .ref p∧(∀ xs,SqT K H a xs→xs[i]?=some x)∧(∀ ys,SqT K H b ys→ys[i]?=some y)∧H'=upd H p (.tup [x,y]),
  fun i H=>∃ xs ys,SqT K H a xs∧SqT K H b ys∧(xs.length≤i∨ys.length≤i)⟩
theorem qdn {P:Program} {w:World} {K:Frag} {elts:List Expr} {c:Nat} {pos:Pos} {z TI TO i1 i2 a b:Addr} (D:ZipApart z TI TO i1 i2 a b):
  Turn P w K (.Tuple elts c pos) (Itz K a b) [z,TI,TO,i1,i2] z (fun i h=>ZipAt z TI TO i1 i2 a b i h) where
 mem:=by simp
 obj:=fun i h st x hx=>by
  obtain ⟨hz,hTI,⟨p,q,hTO⟩,⟨o1,e1,c1,d1⟩,⟨o2,e2,c2,d2⟩⟩:=st;simp only [Ap,Bg,or_false] at hx;rcases hx with rfl | rfl | rfl | rfl | rfl
  ·exact ⟨_,hz,fun v e=>by cases e⟩
  ·exact ⟨_,hTI,fun v e=>by cases e⟩
  ·exact ⟨_,hTO,fun v e=>by cases e⟩
  ·exact ⟨o1,e1,fun v e=>by rw [d1] at e;cases e⟩
  ·exact ⟨o2,e2,fun v e=>by rw [d2] at e;cases e⟩
 keep:=fun i h h' st k=>by
  obtain ⟨hz,hTI,⟨p,q,hTO⟩,h1,h2⟩:=st;exact ⟨k z (by simp) _ hz,k TI (by simp) _ hTI,⟨p,q,k TO (by simp) _ hTO⟩,h1.at fun o e=>k i1 (by simp) o e,h2.at fun o e=>k i2 (by simp) o e⟩
 item:=by
  intro X hP hw hK hc i pins s σ H E I hf st hg;subst hP hw hK;obtain ⟨xs,ys,x,y,hq1,hq2,hx,hy⟩:=hg;obtain ⟨its,rv,p,hz⟩:=I.tuple hq1;obtain ⟨jts,rw',q,hz'⟩:=I.tuple hq2;obtain ⟨u,hu,ru⟩:=rv.get hx;obtain ⟨v,hv,rr⟩:=rw'.get hy;refine qbn D st (show s.heap.IsTuple a its.toArray from p) (show s.heap.IsTuple b jts.toArray from q) (x:=u) (y:=v) (by simpa using hu) (by simpa using hv) fun h1 z1 t1 k1 k2 pr sz kk=>?_
  refine ⟨_,rfl,wpAny_letOwnedTupleGo_zip z1 fun h2 z2 sb=>?_⟩;have kk2:∀ c o,c∉[z,TO,i1,i2]→s.heap.get? c=some o→h2.get? c=some o:=fun c o hc e=>by
   simp only [Ap,Bg,or_false,not_or] at hc;exact sb.extBut _ _ hc.1 (kk c o hc.1 hc.2.1 hc.2.2.1 hc.2.2.2 e)
  have I1:Inv X pins σ H {s with heap:=h2}:=I.turns (t':=s.toks) (ch:=[z,TO,i1,i2]) (fun b hb=>hf b (by simp only [Ap,Bg,or_false] at hb ⊢;rcases hb with rfl | rfl | rfl | rfl <;> simp)) kk2
  have hzlt:z<s.heap.objs.size:=Al st.hz;have pr2:IsPair h2 s.heap.objs.size u v:=sb.extBut _ _ (Cv hzlt) pr;have f:=I.fpOk (b:=s.heap.objs.size) (H':=H) (Ah _) (I.hok.fresh (Ah _));have I2:Inv X pins σ (upd H s.heap.objs.size (.tup [x,y])) {s with heap:=h2}:=I1.trackN f.1 f.2.1 (C8 I.sz) f.2.2.2.2.1 f.2.2.2.2.2 ⟨by simp [sizeLine],[u,v],.cons ru (.cons rr .nil),⟨_,pr2,rfl,_,rfl⟩⟩
  refine ⟨.ref s.heap.objs.size,_,I2,rfl,⟨s.heap.objs.size,x,y,f.1,rfl,fun zs hzs=>by rw [I.tuple_inj hzs hq1];exact hx,fun zs hzs=>by rw [I.tuple_inj hzs hq2];exact hy,rfl⟩,?_,fun b hb=>?_⟩
  ·exact ⟨z2,sb.extBut _ _ D.TIz (kk _ _ D.TIz D.TITO D.TIi1 D.TIi2 st.hTI),⟨u,v,sb.extBut _ _ D.TOz t1⟩,k1.extBut sb.extBut D.i1z,k2.extBut sb.extBut D.i2z⟩
  ·rw [qm (fun e=>?_)]
   ·exact (hf b hb).1
   ·have lt:b<s.heap.objs.size:=by
     obtain ⟨hz,hTI,⟨p,q,hTO⟩,⟨o1,e1,c1,d1⟩,⟨o2,e2,c2,d2⟩⟩:=st;simp only [Ap,Bg,or_false] at hb;rcases hb with rfl | rfl | rfl | rfl | rfl
     ·exact Al hz
     ·exact Al hTI
     ·exact Al hTO
     ·exact Al e1
     ·exact Al e2
    exact A8 lt e
 done:=by
  intro X hP hw hK hc i pins s σ H E I hf st hg;subst hP hw hK;obtain ⟨xs,ys,hq1,hq2,hl⟩:=hg;obtain ⟨its,rv,p,hz⟩:=I.tuple hq1;obtain ⟨jts,rw',q,hz'⟩:=I.tuple hq2;have l1:=rv.length;have l2:=rw'.length;refine qdh (I.ok.hd hc) D st (show s.heap.IsTuple a its.toArray from p) (show s.heap.IsTuple b jts.toArray from q) (by simp;omega) fun h1 kk=>⟨rfl,?_⟩
  refine I.turns (t':=s.toks) (ch:=[z,TO,i1,i2]) (fun b hb=>hf b (by simp only [Ap,Bg,or_false] at hb ⊢;rcases hb with rfl | rfl | rfl | rfl <;> simp)) fun c o hc e=>?_
  simp only [Ap,Bg,or_false,not_or] at hc;exact kk c o hc.1 hc.2.1 hc.2.2.1 hc.2.2.2 e
 self:=fun _ _ _ _ _ st h=>wpAny_pyIter_zip st.hz h
abbrev tzA (h:Heap) (l:Addr):Heap:=h.push {cls:= .type "tuple_iterator",data:= .fields #[.ref l,.int 0 0]}
abbrev tzP (h:Heap) (u v:Value):Heap:=h.push {cls:= .type "tuple",data:= .seq #[u,v]}
abbrev tz2 (h:Heap) (l m:Addr):Heap:=tzA (tzA h l) m
abbrev tz4 (h:Heap) (l m:Addr):Heap:=tzP (tzP (tz2 h l m) (.ref h.objs.size) (.ref (tzA h l).objs.size)) .none .none
abbrev tz5 (h:Heap) (l m:Addr):Heap:=(tz4 h l m).push {cls:= .type "zip",data:= .fields #[.none,.bool false,.bool false,.ref (tz2 h l m).objs.size,.ref (tzP (tz2 h l m) (.ref h.objs.size) (.ref (tzA h l).objs.size)).objs.size]}
theorem QS (l m:Addr) (xs ys:Array Value):
  Meets (Builtin.«zip.__new__» ⟨[.type "zip",.ref l,.ref m],[]⟩) (fun _ R s=>s.heap.IsTuple l xs∧s.heap.IsTuple m ys∧R (.ok (.ret (.ref (tz4 s.heap l m).objs.size))) {s with heap:=tz5 s.heap l m}):=
 .of_wp fun prog w A R s h=>by
  obtain ⟨hp,g,d,tk,os⟩:=s;obtain ⟨hl,hm,h⟩:=h;have hsub:=sub_zip;have h1:Heap.IsTuple (Shared.heap ⟨hp,g,d,tk,os⟩) l xs:=hl;have h2:Heap.IsTuple (Shared.heap ⟨tzA hp l,g,d,tk,os⟩) m ys:=by
   obtain ⟨o,e,c,n,q⟩:=hm;exact ⟨o,Af _ e,c,n,q⟩
  wp_walk using Ez h1,Ez h2
  exact ⟨_,rfl,h⟩
section
variable {prog:Program} {w:World} {A:Around} {E:Value→Shared→Prop} {s:Shared}
theorem qc5 {l m:Addr} {xs ys:Array Value} {Q:Value→Shared→Prop} (hl:s.heap.IsTuple l xs) (hm:s.heap.IsTuple m ys)
  (h:∀ h',ZipAt (s.heap.objs.size+4) (s.heap.objs.size+2) (s.heap.objs.size+3) s.heap.objs.size (s.heap.objs.size+1) l m 0 h'→(∀ c o,s.heap.get? c=some o→h'.get? c=some o)→Q (.ref (s.heap.objs.size+4)) {s with heap:=h'}):
  wpAny (model prog w) A (call (.type "zip") [.ref l,.ref m]) Q E s:=by
 refine callType_new F.called_zip O0 (F.typeCall_zip_2 _ _) (F.newCall_zip_2 _ _) (fun obj=>F.args_object_init_3 obj _ _) F.entry_zip_new (QS l m xs ys) ⟨hl,hm,?_⟩;have n1:(tzA s.heap l).objs.size=s.heap.objs.size+1:=Cy ..;have n2:(tz2 s.heap l m).objs.size=s.heap.objs.size+2:=by rw [Cy,n1]
 have n3:(tzP (tz2 s.heap l m) (.ref s.heap.objs.size) (.ref (tzA s.heap l).objs.size)).objs.size=s.heap.objs.size+3:=by rw [Cy,n2]
 have n4:(tz4 s.heap l m).objs.size=s.heap.objs.size+4:=by rw [Cy,n3]
 have g5:(tz5 s.heap l m).get? (tz4 s.heap l m).objs.size=some _:=Aw _ rfl;have up4:∀ c o,(tz4 s.heap l m).get? c=some o→(tz5 s.heap l m).get? c=some o:=fun c o e=>Af _ e;have up3:∀ c o,(tzP (tz2 s.heap l m) (.ref s.heap.objs.size) (.ref (tzA s.heap l).objs.size)).get? c=some o→(tz5 s.heap l m).get? c=some o:=fun c o e=>up4 c o (Af _ e);have up2:∀ c o,(tz2 s.heap l m).get? c=some o→(tz5 s.heap l m).get? c=some o:=fun c o e=>up3 c o (Af _ e);have up1:∀ c o,(tzA s.heap l).get? c=some o→(tz5 s.heap l m).get? c=some o:=fun c o e=>up2 c o (Af _ e);have g4:=up4 _ _ (Aw _ (o:={cls:= .type "tuple",data:= .seq #[.none,.none]}) rfl);have g3:=up3 _ _ (Aw _ (o:={cls:= .type "tuple",data:= .seq #[.ref s.heap.objs.size,.ref (tzA s.heap l).objs.size]}) rfl);have g2:=up2 _ _ (Aw _ (o:={cls:= .type "tuple_iterator",data:= .fields #[.ref m,.int 0 0]}) rfl);have g1:=up1 _ _ (Aw _ (o:={cls:= .type "tuple_iterator",data:= .fields #[.ref l,.int 0 0]}) rfl);show _∧_;rw [n2,n3,n4] at g5;rw [n1,n2] at g3;rw [n3] at g4;rw [n1] at g2;rw [n4];exact ⟨⟨_,g5,rfl⟩,h _ ⟨g5,g3,⟨_,_,g4⟩,⟨_,g1,rfl,rfl⟩,⟨_,g2,rfl,rfl⟩⟩ fun c o e=>up1 c o (Af _ e)⟩
end
theorem qjs:bootBuiltins "zip"=some (.type "zip"):=∅
def qk7 (K:Frag) (ta:TA):TI:=fun σ H R=>ta σ H fun vs H1=>∃ a b:Addr,vs=[.ref a,.ref b]∧(∃ xs,SqT K H1 a xs)∧(∃ ys,SqT K H1 b ys)∧R (Itz K a b) H1
theorem qel {X:Cx} {K:Frag} {elts:List Expr} {c:Nat} {tpos:Pos} {a b:Expr} {ta:TA} {p pos:Pos} (hK:X.K=K) (hm:X.mg "zip"=none) (ha:PA X [a,b] ta) (hg:Gl X "zip":=by rfl)
  (hs:starEach [a,b] X.env=[(false,eval a X.env),(false,eval b X.env)]:=by rfl) (hs2:starEach [b] X.env=[(false,eval b X.env)]:=by rfl):PI X (.Tuple elts c tpos) (.Call (.Name "zip" p) [a,b] [] pos) (qk7 K ta):=by
 intro pins s σ H R I h;subst hK;refine Call_ (JL I hg hm qjs (B8 (thn (ha pos pins s σ H _ I h) fun us s1 ⟨vs,H1,I1,r1,q1⟩=>?_) (by rw [hs,hs2]) (by rw [hs2];rfl)))
 obtain ⟨l,m,e,⟨xs,hx⟩,⟨ys,hy⟩,q⟩:=q1;subst e;cases r1 with
 | cons r rr=>
  cases rr with
  | cons r' rr=>
   cases rr;cases r;cases r';obtain ⟨its,rv,pl,hz⟩:=I1.tuple hx;obtain ⟨jts,rw',pm,hz'⟩:=I1.tuple hy;refine qc5 (show s1.heap.IsTuple l its.toArray from pl) (show s1.heap.IsTuple m jts.toArray from pm) fun h' Z k=>?_;have ll:l<s1.heap.objs.size:=by obtain ⟨o,e,_⟩:=pl;exact Al e
   have lm:m<s1.heap.objs.size:=by obtain ⟨o,e,_⟩:=pm;exact Al e
   have D:ZipApart (s1.heap.objs.size+4) (s1.heap.objs.size+2) (s1.heap.objs.size+3) s1.heap.objs.size (s1.heap.objs.size+1) l m:=by
    have na:∀ (n i j:Nat),i≠j→n+i≠n+j:=fun n i j h=>⋯;have nl:∀ (n k i:Nat),k<n→k≠n+i:=fun n k i h=>⋯;exact ⟨na _ 2 4 O0,na _ 3 4 O0,na _ 0 4 O0,na _ 1 4 O0,na _ 2 3 O0,na _ 2 0 O0,na _ 2 1 O0,na _ 3 0 O0,na _ 3 1 O0,na _ 0 1 O0,
     nl _ _ 4 ll,nl _ _ 3 ll,nl _ _ 0 ll,nl _ _ 1 ll,nl _ _ 4 lm,nl _ _ 3 lm,nl _ _ 0 lm,nl _ _ 1 lm⟩
   refine wpAny_pyIter_zip Z.hz ⟨_,_,_,_,H1,rfl,I1.kept (t':=s1.toks) k,qdn D,Z,fun b hb=>?_,q⟩;have hb':s1.heap.objs.size≤b:=by
    simp only [Ap,Bg,or_false] at hb;rcases hb with e | e | e | e | e <;> rw [e] <;> first | exact Nat.le_add_right _ _ | exact Ah _
   exact I1.fpOk hb' (I1.hok.fresh hb')
section
variable {κ:Type} [DecidableEq κ]
def vd (l:List κ) (k:κ):List κ:=if k∈l then l else l++[k]
def vk (ks:List κ):List κ:=ks.foldl vd []
theorem qbs (ks:List κ) (k:κ):vk (ks++[k])=vd (vk ks) k:=by unfold vk;rw [List.foldl_append];rfl
theorem VX {l:List κ} {k x:κ}:x∈vd l k↔x∈l∨x=k:=by
 unfold vd;split
 ·rename_i h;exact ⟨.inl,fun q=>q.elim id fun e=>e▸h⟩
 ·simp
theorem addU_len (l:List κ) (k:κ):(vd l k).length=if k∈l then l.length else l.length+1:=by
 unfold vd;split <;> simp
theorem yE:∀ (ks l:List κ),(ks.foldl vd l).length≤l.length+ks.length
 | [],l=>Ah _
 | k::r,l=>by
  have h:=yE r (vd l k);have e:=addU_len l k;rw [B3,Aj];split at e <;> omega
theorem qai (ks:List κ):(vk ks).length≤ks.length:=by have:=yE ks [];simpa [vk] using this
theorem Z6:∀ (ks l:List κ),(∃ k∈ks,k∈l)∨¬ ks.Nodup→(ks.foldl vd l).length<l.length+ks.length
 | [],l,h=>by rcases h with ⟨k,hk,_⟩ | h;cases hk;exact absurd E2 h
 | k::r,l,h=>by
  rw [B3,Aj]
  by_cases hk:k∈l
  ·have e:(vd l k).length=l.length:=by rw [addU_len,if_pos hk]
   have:=yE r (vd l k);omega
  ·have e:(vd l k).length=l.length+1:=by rw [addU_len,if_neg hk]
   have:=Z6 r (vd l k) (by
    rcases h with ⟨x,hx,hl⟩ | h
    ·rcases Ap.mp hx with rfl | hx
     ·exact absurd hl hk
     ·exact .inl ⟨x,hx,VX.mpr (.inl hl)⟩
    ·rw [Db] at h
     by_cases hr:k∈r
     ·exact .inl ⟨k,hr,VX.mpr (.inr rfl)⟩
     ·exact .inr fun q=>h ⟨hr,q⟩)
   omega
theorem Z7:∀ (ks l:List κ),ks.Nodup→(∀ k∈ks,k∉l)→(ks.foldl vd l).length=l.length+ks.length
 | [],l,_,_=>rfl
 | k::r,l,h,hd=>by
  rw [B3,Aj];have hk:k∉l:=hd k Au;have e:(vd l k).length=l.length+1:=by rw [addU_len,if_neg hk]
  rw [Db] at h;have:=Z7 r (vd l k) h.2 fun x hx q=>(VX.mp q).elim (hd x (Am _ hx)) fun e=>h.1 (e▸hx);omega
theorem qdl (ks:List κ):((vk ks).length=ks.length)↔ks.Nodup:=by
 constructor
 ·intro h
  by_cases q:ks.Nodup
  ·exact q
  ·have:=Z6 ks [] (.inr q);unfold vk at h;simp at this;omega
 ·intro h;have:=Z7 ks [] h fun _ _ q=>nomatch q;simpa [vk] using this
end
section
variable {prog:Program} {w:World} {κ:Type} [DecidableEq κ] {knd:PySem.KeyKind prog w κ} {A:Around}
abbrev vJ (knd:PySem.KeyKind prog w κ) (h:Heap) (a:Addr) (ks:List κ):Prop:=h.SetOf knd a (fun k=>decide (k∈vk ks)) (vk ks).length
theorem vJ.at' {h h':Heap} {a:Addr} {ks:List κ} (q:vJ knd h a ks) (k:∀ o,h.get? a=some o→h'.get? a=some o):vJ knd h' a ks:=by
 obtain ⟨o,es,ep,t,ho,r⟩:=q;exact ⟨o,es,ep,t,k o ho,r⟩
theorem qd9 {R:Result→Shared→Prop} {it D:Addr} {fp wr:List Addr} {G:Array GenState→Array GenState→Prop} {ks:List κ} {P:Nat→Value→Prop} {St:Nat→Shared→Prop}
  (W:WalksS prog w A.in1 it fp wr G ks.length P St) (hD:D∉fp) (hP:∀ i v,P i v→∃ k,ks[i]?=some k∧knd.is k v=true∧v.scannable=true) (hb:ks.length+1<scanBound):
  ∀ (m i:Nat) (s:Shared),ks.length - i=m→i≤ks.length→St i s→vJ knd s.heap D (ks.take i)→
   (∀ s',Moved (D::wr) G s s'→vJ knd s'.heap D ks→R (.ok (.ret .none)) s')→codeAny (model prog w) A (.builtin "set.update.loop" ⟨[.ref D,.ref it],[]⟩) R s:=by
 have hDw:D∉wr:=fun q=>hD (W.sub _ q);have hin:∀ b∈wr,b∈D::wr:=fun b q=>Am _ q;intro m
 induction m with
 | zero=>
  intro i s hm hi st hS hR;have e:i=ks.length:=⋯;subst e;rw [Bp] at hS;refine codeAny_builtin PyProof.Rows.F.entry_set_update_loop ?_;rw [Around.under_plainId Dv _];show wpAny (model prog w) A.in1 (pyNext (.ref it)>>=_) _ _ s;exact Aa (W.done s _ _ st fun s' mv=>Ai (hR s' (mv.mono hin) (hS.at' fun o q=>mv.heap D o hDw q)))
 | succ m ih=>
  intro i s hm hi st hS hR;have lt:i<ks.length:=⋯;refine codeAny_builtin PyProof.Rows.F.entry_set_update_loop ?_;rw [Around.under_plainId Dv _];show wpAny (model prog w) A.in1 (pyNext (.ref it)>>=_) _ _ s;refine Aa (W.item i s _ _ lt st fun v s1 pv st1 mv=>?_);obtain ⟨k,hk,hkv,hsc⟩:=hP i v pv;have hS1:vJ knd s1.heap D (ks.take i):=hS.at' fun o q=>mv.heap D o hDw q;show wpAny (model prog w) A.in1 (holding [v] (setAdd D v)>>=_) _ _ s1;refine Aa (B5 ?_);unfold setAdd;refine B5 (Aa (knd.pyHash hkv ?_));have few:(vk (ks.take i)).length+1<scanBound:=by
   have h1:=qai (ks.take i);rw [Cr] at h1;omega
  refine wpAny_setAddHashed_of (knd:=knd) (s:={s1 with toks:=s1.toks+1}) hkv hsc hS1 few fun h2 sb hS2=>?_
  have hS3:vJ knd h2 D (ks.take (i+1)):=by
   have e:ks.take (i+1)=ks.take i++[k]:=by rw [Bb,hk];rfl
   unfold vJ;rw [e,qbs];refine SetOf_congr hS2 (fun x=>?_) ?_
   ·rw [Cc,B4,Dn,Dn,Dn,VX]
   ·rw [addU_len]
    by_cases q:k∈vk (ks.take i) <;> simp [q]
  refine Ai ⟨plainId_quiet Dv _,ih (i+1) _ ⋯ lt (W.frame _ s1 _ _ st1 (Ds _) fun b q o e=>?_) hS3 fun s3 mv3 hS4=>?_⟩
  ·rw [sb.2 b fun z=>hD (z▸q)];exact e
  ·refine hR s3 (Moved.trans W.gtrans ((mv.mono hin).then_heap (Ds _) fun b o q e=>?_) mv3) hS4;rw [sb.2 b fun z=>q (z▸Au)];exact e
end
section
variable {prog:Program} {w:World} {κ:Type} [DecidableEq κ] {knd:PySem.KeyKind prog w κ} {A:Around} {E:Value→Shared→Prop} {s:Shared}
abbrev JW (led:Bool):Obj:={cls:= .type "set",dict:=none,data:= .set #[] 0 (.fresh 0 0 led)}
theorem qc6 {t:Addr} {qr:Array Value} {ks:List κ} {Q:Value→Shared→Prop} (nh:A.handled=none) (ht:s.heap.IsTuple t qr) (hlen:qr.size=ks.length)
  (hk:∀ (i:Nat) (v:Value),qr[i]?=some v→∃ k,ks[i]?=some k∧knd.is k v=true∧v.scannable=true) (few:ks.length+1<scanBound)
  (h:∀ (h':Heap) (tk:Nat),vJ knd h' s.heap.objs.size ks→(∀ b o,s.heap.get? b=some o→h'.get? b=some o)→Q (.ref s.heap.objs.size) {s with heap:=h',toks:=tk}):
  wpAny (model prog w) A (call (.type "set") [.ref t]) Q E s:=by
 obtain ⟨c1,c2,mro⟩:=F.called_set.mro;have made:=F.called_set.made;have sub:=F.called_set.sub;refine Eh (codeAny_of_tree ?_);show wpAny (model prog w) _ (callAny (.type "set") _) _ _ _;refine Ai ⟨Ex _ ∅,codeAny_builtin F.entry_type_call ?_⟩;rw [Around.under_plain (weight_type_call_type "set" [.ref t] []) rfl];have n1:=F.called_set.notType;have n2:=F.called_set.canCreate;have n3:=F.typeCall_set_1 (.ref t)
 repeat (any_goals (first | assumption | wp_step))
 refine El (code_set_new_1 (.ref t) (E:=E) (Q₁:=fun ob s1=>∃ led:Bool,ob= .ref s.heap.objs.size∧s1={s with heap:=s.heap.push (JW led)}) fun led=>⟨led,rfl,rfl⟩) fun r s1 q=>?_
 cases r with
 | error e=>exact q
 | ok f1=>
  cases f1 with
  | ret ob=>
   obtain ⟨led,rfl,rfl⟩:=q;have new:(s.heap.push (JW led)).get? s.heap.objs.size=some (JW led):=Aw _ rfl;have hty:Shared.TypeIs {s with heap:=s.heap.push (JW led)} (.ref s.heap.objs.size) "set":=⟨_,new,rfl⟩
   have i1:=F.called_set.init.lookup;have i2:=F.called_set.init.bind (.ref s.heap.objs.size)
   repeat (any_goals (first | assumption | wp_step))
   refine El (Di (R:=wants (fun r s2=>r= .none∧∃ h' tk,s2={s with heap:=h',toks:=tk}∧vJ knd h' s.heap.objs.size ks∧∀ b o,s.heap.get? b=some o→h'.get? b=some o) E)
    F.called_set.init.plain F.entry_set_init (check_set_init_1 hty ?_)) fun r2 s2 q2=>?_
   ·obtain ⟨⟨oc,od,odt,osl⟩,ho,hc,n,hd⟩:=ht;simp only at hc hd;subst hc;subst hd;have ho1:(s.heap.push (JW led)).get? t=some {cls:= .type "tuple",dict:=od,data:= .seq qr n,slots:=osl}:=Af _ ho;have j1:=F.sub_tuple_set;have j2:=F.sub_tuple_frozenset;have j3:(Value.type "tuple"==Value.type "dict")=false:=O0;have ht1:(s.heap.push (JW led)).IsTuple t qr:=⟨_,ho1,rfl,n,rfl⟩;unfold Builtin.«set.__init__» noKeywords Builtin.Frozenset.updateFrom;generalize hPI:pyIter=PI
    wp_walk
    subst hPI;refine Ez ht1 (Aa (wpAny_runValue ?_));have lt:t<s.heap.objs.size:=Al ho;have nh3:A.in1.in1.in1.handled=none:=by simp [nh]
    have zs:(s.heap.push (JW led)).objs.size=s.heap.objs.size+1:=Cy ..;have ne1:t≠(s.heap.push (JW led)).objs.size:=by rw [zs];exact A8 (Ek lt)
    have out:s.heap.objs.size∉[(s.heap.push (JW led)).objs.size,t]:=by
     rw [zs,Ap,Az,not_or];exact ⟨A8 (Er _),Cv lt⟩
    have Wk:=(Walks.tuple (prog:=prog) (w:=w) nh3 _ t ne1 qr).toS;rw [hlen] at Wk;refine qd9 (knd:=knd) (ks:=ks) Wk out hk few (ks.length - 0) 0 _ rfl (Bm _) ⟨⟨_,Aw _ rfl,rfl,rfl⟩,?tup⟩ ?Jb ?fin
    case tup=>
     exact ⟨_,Af _ ho1,rfl,n,rfl⟩
    case Jb=>
     exact SetOf_congr ((setObjOf_fresh (knd:=knd) led).setOf (Af _ new) (by unfold scanBound;omega)) (fun _=>rfl) rfl
    case fin=>
     intro s' mv hS;obtain ⟨h',g',d',tk',os'⟩:=s';have e1:g'=s.gens:=mv.gens;have e2:d'=s.drawn:=mv.drawn;have e3:os'=s.os:=mv.os;subst e1;subst e2;subst e3;refine Ai (Ai ⟨rfl,h',tk',rfl,hS,fun b o e=>?_⟩);have lb:=Al e;refine mv.heap b o ?_ (Af _ (Af _ e));rw [Ap,Az,not_or,zs];exact ⟨A8 lb,A8 (Ek lb)⟩
   ·cases r2 with
    | error e=>exact q2
    | ok f2=>
     cases f2 with
     | ret r=>
      obtain ⟨rfl,h',tk,rfl,hS,kk⟩:=q2
      repeat (any_goals (first | assumption | wp_step))
      exact h _ _ hS kk
     | _=>exact q2.elim
  | _=>exact q.elim
end
def qf9 (P:Program) (w:World) (a:Addr) (ks:List Str):HO:= .ext fun h=>vJ (ze P w) h a (ks.map fun k=>(Sum.inr k:Key))
section
variable {X:Cx}
theorem qc7 {K:Frag} (hK:X.K=K) (hc:X.calm=true):jK X (.type "set") (fun xs H Q=>∃ (a:Addr) (ks:List Str),xs=[.ref a]∧SqT K H a (ks.map V.str)∧ks.length≤100∧∀ p,H p=none→Q (.ref p) (upd H p (qf9 X.prog X.w p ks))):=by
 intro pins s σ H xs us Q I r h;subst hK;obtain ⟨a,ks,rfl,hq,hl,q⟩:=h;obtain ⟨u,rfl,ru⟩:=Ja r;cases ru;obtain ⟨its,rv,p,hz⟩:=I.tuple hq;have e:=rv.length;rw [Ab] at e;refine qc6 (knd:=ze X.prog X.w) (ks:=ks.map fun k=>(Sum.inr k:Key)) (I.ok.hd hc) (show s.heap.IsTuple a its.toArray from p) (by simp [e]) (fun i v hv=>?_) (by simp [scanBound];omega) fun h' tk hS kk=>?_
 ·have hv':its[i]?=some v:=by simpa using hv
  cases hx:ks[i]? with
  | none=>
   have:its[i]?=none:=rv.none_of (by rw [A0,hx];rfl)
   rw [this] at hv';cases hv'
  | some x=>
   obtain ⟨v',e1,r1⟩:=rv.get (i:=i) (x:= .str x) (by rw [A0,hx];rfl)
   rw [hv'] at e1;cases e1;obtain ⟨t,rfl⟩:=r1;exact ⟨Sum.inr x,by rw [A0,hx];rfl,Wf _ _ _ _,rfl⟩
 ·have fr:H s.heap.objs.size=none:=I.hok.fresh (Ah _);refine ⟨.ref s.heap.objs.size,_,I.laid (o:=qf9 X.prog X.w s.heap.objs.size ks) (t':=tk) kk (Ah _) ⟨hS,?_,fun h1 h2 q1 k=>q1.at' k⟩,rfl,q _ fr⟩;obtain ⟨o,_,_,_,ho,_⟩:=hS;exact ⟨o,ho⟩
theorem qc9:jK X (.builtin "len") (fun xs H Q=>∃ (a:Addr) (ks:List Str),xs=[.ref a]∧H a=some (qf9 X.prog X.w a ks)∧ks.length≤100∧Q (.int ((vk ks).length:Nat)) H):=by
 intro pins s σ H xs us Q I r h;obtain ⟨a,ks,rfl,ha,hl,q⟩:=h;obtain ⟨u,rfl,ru⟩:=Ja r;cases ru;obtain ⟨⟨o,es,ep,t,ho,hex,hd,_,_,hb,hf,hn⟩,_⟩:=I.hok a _ ha;have inj:∀ ks:List Str,(vk (ks.map fun k=>(Sum.inr k:Key))).length=(vk ks).length:=fun ks=>by
  have gen:∀ (ks l:List Str),((ks.map fun k=>(Sum.inr k:Key)).foldl vd (l.map fun k=>(Sum.inr k:Key)))=(ks.foldl vd l).map fun k=>(Sum.inr k:Key):=by
   intro ks
   induction ks with
   | nil=>intro l;rfl
   | cons k r ih=>
    intro l;rw [Ba,B3,B3,← ih]
    congr 1
    unfold vd
    by_cases h:k∈l <;> simp [h]
  have g:=gen ks [];unfold vk;rw [Em] at g;rw [g,Ab]
 rw [inj] at hn;have hle:=qai ks;refine call_len_set ho hex hd hf ⋯ ⟨.int es.size,H,I.tok _,⟨_,rfl⟩,?_⟩;rw [hn];exact q
end
section
variable {X:Cx} {K:Frag} {x:Str} {pos:Pos}
theorem qil {a:Expr} {ta:TE} (hK:X.K=K) (ha:PE X a ta) (he:∀ whole,isTrue a X.env whole=(do let v ← whole;standAt a.pos;holding [v] (truthy v)):=by intro _;rfl):
  PT X a (fun σ H Q=>ta σ H fun x H'=>∃ k,qfq K x H' k∧Q k H'):=hK▸qef ha he
def tGT (K:Frag) (l:List Str):TE:=fun _ H Q=>∀ a,(∀ H:Hp,SqT K H a (l.map V.str))→Q (.ref a) H
theorem qen {l:List Str} (h:∃ a,X.mg x=some (.ref a)∧∀ H:Hp,SqT K H a (l.map V.str)) (hg:Gl X x:=by rfl) (hd:(x==("__debug__":Str))=false:=by decide):PE X (.Name x pos) (tGT K l):=by
 obtain ⟨a,m,q⟩:=h;intro pins s σ H Q I h;exact qas (v:= .ref a) hg m rfl hd pins s σ H Q I (h a q)
theorem qht (hK:X.K=K) (hg:X.A.guards=some []) (hu:X.A.units+80<cLine):jK X (.type "str") (fun xs H Q=>∃ (a:Addr) (d:PyData),xs=[.ref a]∧Rep K H (.ref a) d∧d.showable=true∧d.hasDict=false∧d.depth≤64∧d.shown.length≤sizeLine∧Q (.str d.shown) H):=by
 intro pins s σ H xs us Q I r h;subst hK;obtain ⟨a,d,rfl,hr,hs,hd,hdp,hz,q⟩:=h;obtain ⟨u,rfl,ru⟩:=Ja r;obtain ⟨as,rd⟩:=hr.reads I ru;cases ru;exact str_of_reads rd hs (fun z=>by rw [hd] at z;cases z) hg ⋯ (fun _ _ e=>e) (fun h' u tk kk=>⟨.str d.shown,H,I.kept kk,⟨u,rfl⟩,q⟩) hz
def tyD:PyData→String
 | .none=>"NoneType"
 | .bool _=>"bool"
 | .int _=>"int"
 | .str _=>"str"
 | .list _=>"list"
 | .tuple _=>"tuple"
 | .dict _=>"dict"
theorem j7 (hK:X.K=K):jK X (.builtin "isinstance") (fun xs H Q=>∃ x d T,xs=[x,.ty T]∧Rep K H x d∧T∈["bool","int","str","list","tuple"]∧Q (.bl (isi (tyD d) T)) H):=by
 intro pins s σ H xs us Q I r h;subst hK;obtain ⟨x,d,T,rfl,hr,hT,q⟩:=h;obtain ⟨u,w',rfl,ru,rw'⟩:=qae r;cases (show w'=Value.type T from rw');have fin:∀ tk b,b=isi (tyD d) T→EP X pins σ Q (.bool b) {s with toks:=tk}:=fun tk b e=>⟨.bl _,H,I.tok tk,rfl,e▸q⟩
 cases hr with
 | non=>exact vW I ru .non (vU O0 hT) fun tk=>fin tk _ rfl
 | bl b=>exact vW I ru (.bl b) (vU O0 hT) fun tk=>fin tk _ rfl
 | int i=>exact vW I ru (.int i) (vU O0 hT) fun tk=>fin tk _ rfl
 | str y=>exact vW I ru (.str y) (vU O0 hT) fun tk=>fin tk _ rfl
 | @lst a xs ds hq _=>
  cases (show u=Value.ref a from ru);obtain ⟨its,_,⟨o,n,e,hc,_⟩,_⟩:=I.list hq;exact B9 PySem.W.kitx_list I.kIn ⟨o,e,hc⟩ (vU (t:="list") O0 hT) (fun z=>nomatch z) fun tk=>fin tk _ rfl
 | @tup a xs ds hq _=>
  cases (show u=Value.ref a from ru);obtain ⟨its,_,⟨o,e,hc,_⟩,_⟩:=I.tuple hq;exact B9 PySem.W.kitx_tuple I.kIn ⟨o,e,hc⟩ (vU (t:="tuple") O0 hT) (fun z=>nomatch z) fun tk=>fin tk _ rfl
end
structure Stay (st:Addr) (H H':Hp):Prop where
 at0:∃ kvs,H st=some (.dK kvs)
 at1:∃ kvs,H' st=some (.dK kvs)
 rest:∀ b o,b≠st→H b=some o→H' b=some o
section
variable {K:Frag} {st:Addr} {H H' H2:Hp}
theorem Stay.put {kvs ks:List (Key×V)} (h:H st=some (.dK kvs)):Stay st H (upd H st (.dK ks)):=⟨⟨kvs,h⟩,⟨ks,upd_same⟩,fun b o n e=>by rw [qm n];exact e⟩
theorem Stay.trans (a:Stay st H H') (b:Stay st H' H2):Stay st H H2:=⟨a.at0,b.at1,fun c o n e=>b.rest c o n (a.rest c o n e)⟩
theorem Stay.then (a:Stay st H H') (g:qw H' H2):Stay st H H2:=⟨a.at0,let ⟨k,e⟩:=a.at1;⟨k,g _ _ e⟩,fun c o n e=>g c o (a.rest c o n e)⟩
theorem Stay.ne (a:Stay st H H') {b:Addr} {o:HO} (e:H b=some o) (hd:∀ kvs,o≠ .dK kvs):b≠st:=fun z=>by
 obtain ⟨k,q⟩:=a.at0;rw [z,q] at e;exact hd k (Be e).symm
theorem Stay.rd (a:Stay st H H') {b:Addr} {o:HO} (hd:∀ kvs,o≠ .dK kvs) (h:Rd H b o):Rd H' b o:=by
 rcases h with h | ⟨ob,h⟩
 ·exact .inl (a.rest _ _ (a.ne h hd) h)
 ·exact .inr ⟨ob,a.rest _ _ (a.ne h (fun kvs z=>by cases z)) h⟩
theorem Stay.sqL (a:Stay st H H') {b:Addr} {xs:List V} (h:SqL K H b xs):SqL K H' b xs:=by
 rcases h with h | h
 ·exact .inl (a.rd (fun kvs z=>by cases z) h)
 ·exact .inr h
theorem Stay.sqT (a:Stay st H H') {b:Addr} {xs:List V} (h:SqT K H b xs):SqT K H' b xs:=by
 rcases h with h | h
 ·exact .inl (a.rd (fun kvs z=>by cases z) h)
 ·exact .inr h
theorem Rep.stay (a:Stay st H H') {x:V} {d:PyData} (h:Rep K H x d):Rep K H' x d:=h.mono a.sqL a.sqT
theorem Reps.stay (a:Stay st H H') {xs:List V} {ds:List PyData} (h:Reps K H xs ds):Reps K H' xs ds:=h.mono a.sqL a.sqT
end
structure FnOkG (P:Program) (w:World) (K:Frag) (mg:Str→Option Value) (base:Heap) (CX:CXT) (k:Nat) (f:Addr) (fd:FuncData) (ps:List Str) (sp:Sp):Prop where
 len:∀ vs H Q E,sp vs H Q E→vs.length=ps.length
 run:∀ (A:Around) (outer:List Env) (s:Shared) (H:Hp) (args:Args) (us:List Value) (vs:List V) (Q:VK) (E:XK),Room k A→A.guards=some []→Env0 P w K mg base A outer s H→BindsTo s fd args (ps.zip us)→qP vs us→sp vs H Q E→
  codeAny (model P w) A (.call (.ref f) args) (CR CX outer P w H s Q E) s
theorem qjo {CX:CXT} {P:Program} {w:World} {K:Frag} {mg:Str→Option Value} {base:Heap} {k:Nat} {f:Addr} {name qual:Str} {params:Arguments} {body:List Stmt} {scope:Scope} {dV kV doc pm cdv ct oc:Value} {an od:Option Addr}
  {osl:Array (Option Value)} {N ps:List Str} {sp:Sp} (lk:K.lookup f=some ⟨oc,od,.func (PySem.W.fnOf name qual params body scope dV kV doc pm an cdv ct),osl⟩) (hcd:PySem.W.codeIn K cdv qual=true) (S:FnScope N ps scope)
  (len:∀ vs H Q E,sp vs H Q E→vs.length=ps.length)
  (hbody:∀ (A:Around) (outer:List Env) (s:Shared) (H:Hp) (vs:List V) (Q:VK) (E:XK),A.guards=some []→Room k (A.deeper (envOfC qual scope s.heap.objs.size f cdv))→sp vs H Q E→
   ∃ t,PSs (j4 CX P w K mg base N qual scope f cdv A outer s H E) body t∧t {nx:=fun _ H'=>Q .non H',rt:=Q} (Jb N vs) H):
  FnOkG P w K mg base CX (k+1) f (PySem.W.fnOf name qual params body scope dV kV doc pm an cdv ct) ps sp:=by
 refine ⟨len,fun A outer s H args us vs Q E hr hgd e0 hb r hsp=>?_⟩;have hl:=len _ _ _ _ hsp;have KX:K.In s.heap:=e0.mod.kin.keeps fun b o e=>(e0.bs b o e).1;have lim:s.heap.NoLimit:=e0.mod.nolimit.keeps fun b o e=>(e0.bs b o e).1;have hkind:∀ y∈ps.zip us,scope.names.lookup y.1=some .local∨(scope.names.lookup y.1=some .cell∧((cellsFrom (s.heap.objs.size+1) scope.names []).lookup y.1).isSome=true):=fun ⟨n,v⟩ hy=>by
  rcases S.par n (Dj hy).1 with q | q
  ·exact .inl q
  ·exact .inr ⟨q,PySem.W.cellsFrom_some _ _ _ (.inl q)⟩
 refine codeAny_call_function hr.depth (KX _ _ lk) rfl S.co S.gen rfl (PySem.W.codeRec_of KX hcd) (hb _ _ _ _ ?_);refine wpAny_newFunctionEnv_cells S.kind hkind fun env he s1 x=>?_;subst he;refine ⟨lim.keeps x.toInCall.keep,codeAny_func ?_⟩;obtain ⟨t,ht,hq⟩:=hbody A outer s H vs Q E hgd (hr.deeper _) hsp;have I:Inv (j4 CX P w K mg base N qual scope f cdv A outer s H E) [] (Jb N vs) H s1:=YW S hr.hd e0 hl r x;refine Bq (ht [] s1 (Jb N vs) H _ I hq) (fun fl s' hs=>?_) fun e s' hs=>hs;have fin:∀ {σ':St} {H':Hp} {v:V} {u:Value},Inv (j4 CX P w K mg base N qual scope f cdv A outer s H E) [] σ' H' s'→qM v u→Q v H'→CE outer P w H s Q u s':=
  fun {σ' H' v u} J rv q=>⟨v,H',J.os,J.bare,J.base,J.hok,rv,q⟩
 cases fl with
 | ret u=>
  obtain ⟨v,σ',H',J,rv,q⟩:=hs;exact fin J rv q
 | next=>
  obtain ⟨σ',H',J,q⟩:=hs;exact fin (v:=V.non) (u:=Value.none) J rfl q
 | brk=>
  obtain ⟨_,_,_,q⟩:=hs;exact False.elim q
 | cont=>
  obtain ⟨_,_,_,q⟩:=hs;exact False.elim q
theorem qco {P:Program} {w:World} {K:Frag} {mg mb:Str→Option Value} {CX:CXT} {k:Nat} {fa a:Addr} {fd:FuncData} {x:Str} {sp:Sp} {s₁:Shared} {vs:List Value} {ns:List Int}
  (KX:K.In s₁.heap) (hns:s₁.heap.Ns mainGlobals mg) (hb:s₁.heap.Ns builtinsNs mb) (hbb:∀ x:Str,x≠"__name__"→mb x=bootBuiltins x) (hlim:s₁.heap.NoLimit) (hg:s₁.gens= #[])
  (ha:s₁.heap.get? a=some {cls:= .type "list",data:= .seq vs.toArray}) (hi:IntsAre vs ns) (hl:ns.length≤sizeLine) (hr:Room k callerA)
  (F:∀ base:Heap,K.In base→base.Ns mainGlobals mg→FnOkG P w K mg base CX k fa fd [x] sp) (hbind:∀ (s:Shared) (u:Value),BindsTo s fd ⟨[u],[]⟩ [(x,u)])
  (hsp:∀ H:Hp,qj4 H→SqL K H a (ns.map V.int)→sp [.ref a] H (fun v _=>v= .bl true) fun _ _ _=>False)
  (hCX:∀ H e s',CX [] H s₁ (fun _ _ _=>False) e s'→False):
  codeAny (model P w) callerA (.call (.ref fa) ⟨[.ref a],[]⟩) (fun r s'=>r= .ok (.ret (.bool true))∧OldK s₁.heap s'.heap∧s'.os=s₁.os∧AllBare s'.gens) s₁:=by
 have rv:=V6 hi;have lenV:=hi.length;have core:∀ H:Hp,qj4 H→SqL K H a (ns.map V.int)→HOk P w H s₁.heap→(∀ b,H b≠none→b=a)→(H a≠none→K.lookup a=none)→
   codeAny (model P w) callerA (.call (.ref fa) ⟨[.ref a],[]⟩) (fun r s'=>r= .ok (.ret (.bool true))∧OldK s₁.heap s'.heap∧s'.os=s₁.os∧AllBare s'.gens) s₁:=by
  intro H hO hS hok hA hK;have base_of:∀ {b:Addr} {o:Obj},s₁.heap.get? b=some o→H b=none→(XN s₁.heap H).get? b=some o:=fun e n=>qe6 e n;have noA:∀ {b:Addr} {o:Obj} {es:Array DictEntry} {ep:Nat},s₁.heap.get? b=some o→o.data= .dict es ep→H b=none:=fun {b o es ep} e d=>by
   cases q:H b with
   | none=>rfl
   | some u=>
    have e':b=a:=hA b (by rw [q];simp)
    subst e';rw [ha] at e;cases e;have d':Data.seq vs.toArray _=Data.dict es ep:=d;cases d'
  have nsK:∀ {b:Addr} {m:Str→Option Value},s₁.heap.Ns b m→(XN s₁.heap H).Ns b m:=fun {b m} ⟨o,es,ep,e,d,r⟩=>⟨o,es,ep,base_of e (noA e d),d,r⟩;have hKb:K.In (XN s₁.heap H):=fun b o e=>base_of (KX b o e) (by
   cases q:H b with
   | none=>rfl
   | some u=>
    have e':b=a:=hA b (by rw [q];simp)
    subst e';rw [hK (by rw [q];simp)] at e;cases e)
  have hM:Mod K mg (XN s₁.heap H):=⟨hKb,nsK hns,⟨mb,nsK hb,hbb⟩,let ⟨mc,h1,h2⟩:=hlim;⟨mc,nsK h1,h2⟩⟩;have e0:Env0 P w K mg (XN s₁.heap H) callerA [] s₁ H:=⟨rfl,hM,fun b o e=>qg0 e,Nat.le_of_eq (qcr _ _),trivial,fun b hb=>absurd (show b∈([]:List Addr) from hb) (by simp),hok,.of_eq hg⟩
  refine El ((F _ hKb (nsK hns)).run callerA [] s₁ H ⟨[.ref a],[]⟩ [.ref a] [.ref a] _ _ hr rfl e0 (hbind s₁ (.ref a)) (.cons rfl .nil) (hsp H hO hS)) fun r s' h=>?_;cases r with
  | error e=>exact (hCX H e s' h).elim
  | ok fl=>
   cases fl with
   | next=>exact False.elim h
   | brk=>exact False.elim h
   | cont=>exact False.elim h
   | ret u=>
    obtain ⟨v,H',os,bare,un,hok',r',q⟩:=h;have q':v= .bl true:=q;subst q';obtain rfl:u=Value.bool true:=r';refine ⟨rfl,OldK.of_keep fun b o e=>?_,os,bare⟩;cases q:H b with
    | none=>exact un.keep b o e q (by intro z;exact absurd (show b∈([]:List Addr) from z) (by simp)) (by simp)
    | some u=>
     rcases hO b with z | ⟨ob,xs,z⟩
     ·rw [q] at z;cases z
     ·have z2:=un.frzs b ob _ z;obtain ⟨e1,_⟩:=hok b _ z;obtain ⟨e2,_⟩:=hok' b _ z2;rw [e] at e1;cases e1;exact e2
 cases hk:K.lookup a with
 | some o=>
  have e:=KX a o hk;rw [ha] at e;cases e;refine core (fun _=>none) (fun _=> .inl rfl) (.inr ⟨_,vs.toArray,_,hk,rfl,rfl,rfl,by rw [Ar,lenV];exact hl,by simpa using rv⟩) (fun b u z=>by have z':(none:Option HO)=some u:=z;cases z') (fun b z=>absurd rfl z) fun z=>absurd rfl z
 | none=>
  refine core (fun b=>if b=a then some (.frz {cls:= .type "list",data:= .seq vs.toArray} (.lst (ns.map V.int))) else none) (fun b=>?_) (.inl (.inr ⟨{cls:= .type "list",data:= .seq vs.toArray},if_pos rfl⟩)) (fun b u z=>?_) (fun b z=>?_) fun _=>hk
  ·by_cases hb:b=a
   ·exact .inr ⟨_,_,if_pos hb⟩
   ·exact .inl (if_neg hb)
  ·by_cases hb:b=a
   ·have z':=(if_pos hb).symm.trans z;cases z';subst hb;exact ⟨ha,by rw [Ab];exact hl,vs,_,rv,ha⟩
   ·have z':=(if_neg hb).symm.trans z;cases z'
  ·by_cases hb:b=a
   ·exact hb
   ·exact absurd (if_neg hb) z
theorem qdj {l:PySem.W.OpenLaw} {n k:Nat} {q:Program} {loose:List Str} {XP:(Str→Option Value)→Heap→Prop} {YP:World→Heap→Prop} {d:DefRec} {K:Params→Frag} {CX:World→CXT} {sp:World→Sp} {x:Str}
  (hn:l.most=some n) (hn2:n≤sizeLine) (hdf:d.params.defaults=[]) (hr:Room k callerA)
  (hY:∀ (w:World) (h:Heap),YP w h→(K w.params).In h)
  (F:∀ (w:World) (mg:Str→Option Value) (fa:Addr) (h:Heap),(K w.params).In h→h.Ns mainGlobals mg→mg d.name=some (.ref fa)→
   ∃ fd:FuncData,(∀ (s:Shared) (u:Value),BindsTo s fd ⟨[u],[]⟩ [(x,u)])∧
    ∀ base:Heap,(K w.params).In base→base.Ns mainGlobals mg→FnOkG l.prog w (K w.params) mg base (CX w) k fa fd [x] (sp w))
  (hsp:∀ (w:World) (H:Hp) (a:Addr) (ns:List Int),ns.length≤n→qj4 H→SqL (K w.params) H a (ns.map V.int)→sp w [.ref a] H (fun v _=>v= .bl true) fun _ _ _=>False)
  (hCX:∀ (w:World) (H:Hp) (s:Shared) (e:Value) (s':Shared),CX w [] H s (fun _ _ _=>False) e s'→False):
  PySem.W.WalkO q loose XP YP l.row.toRowW d [] (fun f vs=>PySem.call f vs):=by
 refine Att.attach_call hn hdf fun w s₀ s₁ mg mb fa o pm cd doc a vs ns G Y ho hd hcd hmg hobj hints hlen hg=>?_;have KX:=hY w _ Y;obtain ⟨fd,hb,hF⟩:=F w mg fa _ KX G.T.g hmg;exact qco KX G.T.g G.T.b G.T.builtins G.T.nolimit hg hobj hints (Av hlen hn2) hr hF hb (fun H hO hS=>hsp w H a ns hlen hO hS) fun H e s'=>hCX w H s₁ e s'
section
variable {P:Program} {w:World} {K:Frag} {mg:Str→Option Value} {base:Heap}
theorem Fun.okG {x qual:Str} {st:Stmt} {f:Addr} {fd:FuncData} {N ps:List Str} {k:Nat} {sp:Sp} (F:Fun K x qual st f fd) (S:FnScope N ps (qj st)) (len:∀ vs H Q E,sp vs H Q E→vs.length=ps.length)
  (hbody:∀ (cdv:Value) (A:Around) (outer:List Env) (s:Shared) (H:Hp) (vs:List V) (Q:VK) (E:XK),(A.deeper (envOfC qual (qj st) s.heap.objs.size f cdv)).guards=some []→Room k (A.deeper (envOfC qual (qj st) s.heap.objs.size f cdv))→sp vs H Q E→
   ∃ t,PSs (j4 CX0 P w K mg base N qual (qj st) f cdv A outer s H E).nox (jU st) t∧t {nx:=fun _ H'=>Q .non H',rt:=Q} (Jb N vs) H):FnOkG P w K mg base CX0 (k+1) f fd ps sp:=by
 obtain ⟨oc,od,kV,doc,pm,an,cdv,ct,osl,rfl,lk,hcd⟩:=F.ex;refine qjo lk hcd S len fun A outer s H vs Q E hg hr hsp=>?_;obtain ⟨t,h,q⟩:=hbody cdv A outer s H vs Q E hg hr hsp;exact ⟨t,h.nox,q⟩
end
section
variable {X:Cx} {sc scope:Scope} {NX N:List Str} {js:List (Option Nat)} {tg iter elt:Expr} {ifs:List Expr} {wi:TI} {g:TG} {tt:TT} {te:TE} {pos:Pos}
theorem WN {i:Nat} {y:Str} {py spos:Pos} (hN:X.N.Nodup) (hy:X.N[i]?=some y) (hL:Loc X.env.scope y) (hi:PI X tg iter wi) (hg:∀ cl C fp s H,PG (cxC X scope cl C N fp s H) tg g) (ht:∀ cl C fp s H,PF (cxC X scope cl C N fp s H) ifs tt)
  (he:∀ cl C fp s H,PE (cxC X scope cl C N fp s H) elt te) (own:qfs js g) (ok:CompScope sc scope NX N js) (hsc:X.env.scope=sc:=by rfl) (hNX:X.N=NX:=by rfl) (hc:X.calm=true:=by rfl) (hs:∀ x,foldedSetIterable iter X.env x=pure x:=by intro _;rfl)
  (hsw:swapsWith (.ListComp elt [⟨tg,iter,ifs,0⟩] scope pos) (some (.Name y py)) spos.line X.env=pure true:=by rfl) (hf:X.fn y=true∨X.env.scope.names.lookup y=some .local:=by first | exact .inl rfl | exact .inr rfl | assumption):
  PS X (.Assign [.Name y py] (.ListComp elt [⟨tg,iter,ifs,0⟩] scope pos) spos) (qX (vm wi js g tt te) (qv i)):=by
 intro pins s σ H D I h;rw [exec_Assign_Name_used _ _ _ _ hsw];refine Aa (Et (Aa ?_));show wpAny _ X.A (do let _ ← comprehension (.ListComp elt [⟨tg,iter,ifs,0⟩] scope pos) scope X.env _ (newList []) false (eval iter X.env) (some (assign (.Name y py) X.env))) _ _ s
 obtain ⟨cl,hclos,cl1,cl2⟩:=yP (scope:=scope) (env:=X.env) fun z hz hf=>I.ok.has z.1 (by
  have q:=ok.free z hz hf;rw [← hsc] at q;exact q)
 refine Aa (Bq (wpAny_comprehension_free (use:=some (assign (.Name y py) X.env)) (Q:=fun _ s'=>SP X pins D .next s') rfl hs hclos ok.kind ok.names
  (thn (hi pins s σ H _ I h) fun xv s1 h1=>thn h1 fun itv s2 h2=>?_)) (fun _ s' hq=>Ai (Ai hq)) fun _ _ e=>e)
 obtain ⟨it,fp,tn,J,H2,rfl,I2,T,st2,f2,W,⟨m0,w0⟩,turn⟩:=h2;refine Y3 (Q:=fun x H1=>qv i x σ H1 D.nx) (RR:=fun acc C=>compPost (model X.prog X.w) X.A X.xe (some (assign (.Name y py) X.env)) (fun _ s'=>SP X pins D .next s') acc C) hsc hNX ok hc I2 cl1 cl2 T st2 f2 (fun C=>hg cl C fp s2 H2) (fun C=>ht cl C fp s2 H2) (fun C=>he cl C fp s2 H2) own w0 turn fun L C m s' Hf I' hn f q=>?_
 obtain ⟨g0,g1,g2,g3,g4,g5⟩:=f;show wpAny _ X.A (assign (.Name y py) X.env (.ref L)) _ _ _;refine wpAny_assign_Name (YH I' hN hy hL (show qM (.ref L) (.ref L) from rfl) (fun s3 I3 hb=>?_) hf);obtain ⟨a,sb,ha⟩:=hb;have hCa:C≠a:=by
  rcases ha with rfl | ha
  ·exact g1
  ·exact fun z=>g4 _ _ ha z.symm
 exact ⟨m,hn.sameBut sb hCa,fun h' hs'=>⟨_,Hf,I3.turned (t':=s3.toks) (fun b o hb e=>(hs'.2 b hb).trans e) g0 g1 g3 g4 g5,q⟩⟩
end
def Itv (K:Frag) (a:Addr) (n:Nat):It:=
 ⟨fun i H=>i<n∧∃ xs,SqL K H a xs∧xs.length=n,fun i H x H'=>H'=H∧∀ xs,SqL K H a xs→xs[n - 1 - i]?=some x,fun i _=>n≤i⟩
theorem qdp {P:Program} {w:World} {K:Frag} {tg:Expr} (a it:Addr) (n:Nat):Turn P w K tg (Itv K a n) [it] it (fun i h=>i≤n∧h.IsRevIter it a ((n:Int) - 1 - (i:Int))) where
 mem:=by simp
 obj:=fun i h st b hb=>by
  cases Az.mp hb;obtain ⟨_,o,e,c,d⟩:=st;exact ⟨o,e,fun v z=>by rw [d] at z;cases z⟩
 keep:=fun i h h' st k=>⟨st.1,st.2.at fun o e=>k it (by simp) o e⟩
 item:=by
  intro X hP hw hK hc i pins s σ H E I hf st hg;subst hP hw hK;obtain ⟨hi,xs,hq,hl⟩:=hg;obtain ⟨its,rv,p,hz⟩:=I.list hq;have hx:xs[n - 1 - i]?=some (xs[n - 1 - i]'⋯):=Aq ⋯;obtain ⟨u,hu,ru⟩:=rv.get hx;obtain ⟨k0,k1,k2,k3,k4,k5⟩:=hf it (by simp)
  have e:(n:Int) - 1 - (i:Int)=((n - 1 - i:Nat):Int):=⋯;have hit:=st.2;rw [e] at hit;refine wpAny_pyNext_rev_item hit p.isList (x:=u) (by simpa using hu) fun h' st' sb=>?_
  have e2:((n - 1 - i:Nat):Int) - 1=(n:Int) - 1 - ((i+1:Nat):Int):=⋯;rw [e2] at st';have I1:Inv X pins σ H {s with heap:=h'}:=I.turned (t':=s.toks) (fun b o hb e=>(sb.2 b hb).trans e) k0 k1 k3 k4 k5
  obtain ⟨o,eo,oc,od⟩:=id st';exact ⟨u,rfl,Z4 (s:={s with heap:=h'}) eo oc od O0 ⟨_,H,I1,ru,⟨rfl,fun ys hy=>by rw [I.list_inj hy hq];exact hx⟩,⟨⋯,st'⟩,fun b hb=>(hf b hb).1⟩⟩
 done:=by
  intro X hP hw hK hc i pins s σ H E I hf st hg;subst hP hw hK;obtain ⟨k0,k1,k2,k3,k4,k5⟩:=hf it (by simp)
  have hi:i=n:=Nat.le_antisymm st.1 hg;have hit:=st.2;have e:(n:Int) - 1 - (i:Int)= -1:=⋯;rw [e] at hit;exact wpAny_pyNext_rev_end (I.ok.hd hc) hit fun h' eb=>⟨rfl,I.turned (t':=s.toks) (fun b o hb e=>eb b o hb e) k0 k1 k3 k4 k5⟩
 self:=fun _ _ _ _ _ st h=>wpAny_pyIter_revIter st.2 h
theorem Wl:bootBuiltins "reversed"=some (.type "reversed"):=∅
def qjl (K:Frag) (ta:TA):TI:=fun σ H R=>ta σ H fun vs H1=>∃ (a:Addr) (xs:List V),vs=[.ref a]∧SqL K H1 a xs∧R (Itv K a xs.length) H1
theorem qir {X:Cx} {K:Frag} {tg a:Expr} {ta:TA} {p pos:Pos} (hK:X.K=K) (hm:X.mg "reversed"=none) (ha:PA X [a] ta) (hg:Gl X "reversed":=by rfl) (hs:starEach [a] X.env=[(false,eval a X.env)]:=by rfl):PI X tg (.Call (.Name "reversed" p) [a] [] pos) (qjl K ta):=by
 intro pins s σ H R I h;subst hK;refine Call_ (JL I hg hm Wl (B8 (thn (ha pos pins s σ H _ I h) fun us s1 ⟨vs,H1,I1,r1,q1⟩=>?_) hs rfl));obtain ⟨l,xs,e,hx,q⟩:=q1;subst e;cases r1 with
 | cons r rr=>
  cases rr;cases r;obtain ⟨its,rv,pl,hz⟩:=I1.list hx;have hl:=rv.length;refine call_reversed_list pl.isList ?_;have hit:(s1.heap.push (revObj l ((its.toArray.size:Int) - 1))).IsRevIter s1.heap.objs.size l ((xs.length:Int) - 1 - ((0:Nat):Int)):=⟨_,Aw _ rfl,rfl,by
   show Data.fields _=_;rw [Ar,← hl];simp⟩
  refine wpAny_pyIter_revIter hit ⟨_,[s1.heap.objs.size],_,_,H1,rfl,I1.kept (t':=s1.toks) fun b o e=>Af _ e,qdp l _ _,⟨Bm _,hit⟩,fun b hb=>?_,q⟩;cases Az.mp hb;exact I1.fpOk (Ah _) (I1.hok.fresh (Ah _))
section
variable {X:Cx} {K:Frag}
theorem Y4:bootBuiltins "sorted"=some (.builtin "sorted"):=∅
theorem qfy {xs:List V} {us:List Value} (hl:xs.length=us.length) (h:∀ (i:Nat) (x:V) (u:Value),xs[i]?=some x→us[i]?=some u→qM x u):qP xs us:=by
 induction xs generalizing us with
 | nil=>
  cases us with
  | nil=>exact .nil
  | cons a b=>simp at hl
 | cons x xs ih=>
  cases us with
  | nil=>simp at hl
  | cons u us=>
   refine .cons (h 0 x u rfl rfl) (ih (by simpa using hl) fun i y v h1 h2=>h (i+1) y v (by simpa using h1) (by simpa using h2))
theorem qg7 {us:List Value} {ks:List Int} (hl:us.length=ks.length) (h:∀ (i:Nat) (u:Value) (k:Int),us[i]?=some u→ks[i]?=some k→∃ t,u=Value.int k t):IntsAre us ks:=by
 induction us generalizing ks with
 | nil=>
  cases ks with
  | nil=>exact .nil
  | cons a b=>simp at hl
 | cons u us ih=>
  cases ks with
  | nil=>simp at hl
  | cons k ks=>
   obtain ⟨t,rfl⟩:=h 0 u k rfl rfl;exact .cons k t (ih (by simpa using hl) fun i y v h1 h2=>h (i+1) y v (by simpa using h1) (by simpa using h2))
theorem X0 (hc:X.calm=true):jK X (.builtin "sorted") (fun xs H Q=>∃ (d:Addr) (kvs:List (Key×V)) (ks:List Int),xs=[.ref d]∧H d=some (.dK kvs)∧kvs.map (·.1)=ks.map Sum.inl∧ks.length<64∧
  ∀ ns:List Int,ns.Perm ks→ns.Pairwise (· ≤ ·)→∀ l,H l=none→Q (.ref l) (upd H l (.lst (ns.map V.int)))):=by
 intro pins s σ H xs us Q I r h;obtain ⟨d,kvs,ks,rfl,hd,hk,h64,q⟩:=h;obtain ⟨u,rfl,rx⟩:=Ja r;cases rx;obtain ⟨hz,lo,vs,rel,dd⟩:=(show zd X.prog X.w H s.heap d (.dK kvs) from I.hok d _ hd);obtain ⟨ep,hat⟩:=dd.dictAt;have hkeys:vs.map (·.1)=ks.map Sum.inl:=by rw [← rel.keys];exact hk
 have hlen:vs.length=ks.length:=by have:=congrArg List.length hkeys;simpa using this
 have big:(64:Nat)≤sizeLine:=O0;refine Calls.call_function_entry kind_sorted plain_sorted entry_sorted (args_sorted1 _) ?_;unfold Builtin.«sorted»;refine Aa (m:=checkCount "sorted" 1 1 _) (Ai ?_);refine Aa (PySem.W.kdu_collect (A:=X.A.in1) (PySem.W.kdl_dict (knd:=ze X.prog X.w) (kvs:=vs) (ep:=ep) lo) (I.ok.hd hc) hat ⋯ fun h' tk acc hkp hacc=>?_);have hl:acc.toList.length=vs.length:=by rw [Dp];exact hacc.1
 have hI:IntsAre acc.toList ks:=qg7 ⋯ fun i u k h1 h2=>by
  obtain ⟨k',x,e1,e2⟩:=hacc.2 i u (by simpa using h1)
  have e3:(vs.map (·.1))[i]?=some k':=by rw [A0,e1];rfl
  rw [hkeys,A0,h2] at e3;cases e3;rcases zo (show Wi (Sum.inl k) u=true from e2) with ⟨j,t,e,rfl⟩ | ⟨y,t,e,_⟩
  ·cases e;exact ⟨t,rfl⟩
  ·cases e
 refine Aa (wpAny_newList ?_ ⋯);have hoL:(h'.push (seqObj "list" acc.toList.toArray 0)).get? h'.objs.size=some (seqObj "list" acc.toList.toArray 0):=Aw _ rfl;show wpAny _ _ _ _ _ {s with heap:=h'.push (seqObj "list" acc.toList.toArray 0),toks:=tk}
 refine Aa (B5 (Ck slot_list_sort ⟨_,hoL,rfl⟩ entry_list_sort (list_sort_tree hoL hI ⋯ fun out ns a1 a2 a3=>⟨_,rfl,?_⟩) (args_list_sort _)));refine Ai ⟨_,rfl,?_⟩;obtain ⟨m,em⟩:=sortedHeap_at (out:=out) hoL;have hnl:ns.length=ks.length:=a2.length_eq;have I1:Inv X pins σ H {s with heap:=h',toks:=tk}:=I.kept (t':=tk) hkp
 refine ⟨.ref h'.objs.size,_,I1.laid (t':=tk) (o:= .lst (ns.map V.int)) (fun b ob e=>(sortedHeap_old (A8 (Al e)) (Bi (Al e) (by rw [size_push'];exact Ds _))).trans (Af _ e)) (Ah _) ?_,rfl,q ns a2 a3 _ (I1.hok.fresh (Ah _))⟩
 exact ⟨by rw [Ab];omega,out.toList,m,V6 a1,by simpa using em⟩
end
structure MethN (P:Program) (w:World) (K:Frag) (mg:Str→Option Value) (base:Heap) (C:Addr) (k:Nat) (m:Str) (ps:List Str) (sp:Sp):Prop where
 ex:∃ (f:Addr) (fd:FuncData),FnOk P w K mg base CX0 k f fd ps sp∧Jd K fd ps []∧Meth K C m f
 cl:Cls K C
section
variable {X:Cx} {C:Addr} {k:Nat} {m x:Str} {ps:List Str} {sp:Sp} {E:XK} {o e:Expr} {es:List Expr} {ta:TE} {t:TA} {p pos apos:Pos} {pl:Sem Bool}
theorem qiw (he:PE X o ta) (D:MethN X.prog X.w X.K X.mg X.base C k m ps sp) (hr:Room k X.A)
  (ht:eval (.Call (.Attribute o m apos) [] [] pos) X.env=(do let ov ← eval o X.env;standAt apos.atName;let (f,first) ← holding [ov] (getMethod ov m pl);callWith pos f first (backTo pos (starEach [] X.env)) (backToKw pos (keywordEach [] X.env))):=by rfl):
  PE X (.Call (.Attribute o m apos) [] [] pos) (qhp C m sp [] E0 ta qo):=by
 obtain ⟨f,fd,F,B,M⟩:=D.ex;exact qem he D.cl M F hr B .nil qep ht
end
section
variable {P:Program} {w:World} {K:Frag} {mg:Str→Option Value} {base:Heap}
end
end L2
namespace L2
open PySem
def RIn (M:Model) (Γ:Ctx) (p:Pos) (s:Shared) (e:End) (s':Shared):Sem Fin→Prop
 | .pure (.done f)=>e= .ret (.ok f)∧s'=s
 | .pure (.again c)=>Runs M (Γ.goto c) p (M.den c) [] s e s'
 | .raise x=>e= .ret (.error x)∧s'=s
 | .rule _ k=>Runs M Γ p (k ()) [] s e s'
 | .at p' k=>Runs M Γ p' (k ()) [] s e s'
 | .load a _ k=>∃ o,s.heap.get? a=some o∧Runs M Γ p (k o) [] s e s'
 | .update a _ f k=>Runs M Γ p (k ()) [] {s with heap:=s.heap.update a f} e s'
 | .loadIfAlive a k=>Runs M Γ p (k (s.heap.get? a)) [] s e s'
 | .point _ k=>Runs M Γ p (k ()) [] s e s'
 | .alloc o k=>Runs M Γ p (k s.heap.objs.size) [] {s with heap:=s.heap.push o} e s'
 | .fresh k=>Runs M Γ p (k s.toks) [] {s with toks:=s.toks+1} e s'
 | .ask k=>Runs M Γ p (k ⟨M.prog,M.w.params⟩) [] s e s'
 | .choose src n k=>Runs M Γ p (k (M.w.draws src (s.drawn.get src) % n)) [] {s with drawn:=s.drawn.bump src} e s'
 | .os q _ k=>Runs M Γ p (k (Os.step s.os q).2) [] {s with os:=(Os.step s.os q).1} e s'
 | .handled own k=>Runs M Γ p (k (if own then Γ.own else Γ.handled)) [] s e s'
 | .genState g k=>∃ st,s.gens[g]?=some st∧Runs M Γ p (k st.seen) [] s e s'
 | .stack k=>Runs M Γ p (k ((Γ.code,p)::Γ.below)) [] s e s'
 | .thread k=>Runs M Γ p (k 0) [] s e s'
 | .newGen c k=>Runs M Γ p (k s.gens.size) [] {s with gens:=s.gens.push (.fresh c)} e s'
 | .call c h g l k=>(∃ r s1,Runs M (Γ.enter c h p) p (M.den c) [] s (.ret r) s1∧Runs M Γ p (k r) [] s1 e s')∨∃ v g0 l0 k0 c0 p0 fs,Runs M (Γ.enter c h p) p (M.den c) [] s (.susp v g0 l0 k0 c0 p0 fs) s'∧e= .susp v g0 l0 k0 c0 p0 (fs++[.ret k h g l Γ.code p []])
 | .yield v g l k=>e= .susp v g l k Γ.code p []∧s'=s
 | .resume g r _ k=>∃ res s1,Wakes M Γ p g r s res s1∧Runs M Γ p (k res) [] s1 e s'
 | _=>True
def RSeg (M:Model) (Γ:Ctx) (p:Pos) (t:Sem Fin) (F:Frame) (fs:List Frame) (s:Shared) (e:End) (s':Shared):Prop:=
 (∃ r s1,Runs M (Γ.over (F::fs)) p t [] s (.ret r) s1∧(match F with
  | .ret k _ _ _ c1 p1 _=>Runs M (Γ.goto c1) p1 (k r) fs s1 e s'
  | .gen g k _ c1 p1=>Runs M (Γ.goto c1) p1 (k (End.ret r).result) fs (s1.setGen g .finished) e s'))∨
 ∃ v g0 l0 k0 c0 p0 fs0 s1,Runs M (Γ.over (F::fs)) p t [] s (.susp v g0 l0 k0 c0 p0 fs0) s1∧(match splitAtGen (F::fs) with
  | none=>e= .susp v g0 l0 k0 c0 p0 (fs0++F::fs)∧s'=s1
  | some (pre,(g,k,c1,p1),rest)=>Runs M (Γ.goto c1) p1 (k (.yielded v)) rest (s1.setGen g (End.susp v g0 l0 k0 c0 p0 (fs0++pre)).genState) e s')
def RAll (M:Model) (Γ:Ctx) (p:Pos) (t:Sem Fin) (fs:List Frame) (s:Shared) (e:End) (s':Shared):Prop:=match fs with
 | []=>RIn M Γ p s e s' t
 | F::r=>RSeg M Γ p t F r s e s'
theorem qH {M:Model} {Γ:Ctx} {p:Pos} {t:Sem Fin} {fs:List Frame} {s s':Shared} {e:End} (h:Runs M Γ p t fs s e s'):RAll M Γ p t fs s e s':=by
 cases h with
 | done=>exact ⟨rfl,rfl⟩
 | raise=>exact ⟨rfl,rfl⟩
 | again _ g=>exact g
 | rule g=>exact g
 | «at» g=>exact g
 | load q g=>exact ⟨_,q,g⟩
 | update _ g=>exact g
 | loadIfAlive g=>exact g
 | point g=>exact g
 | alloc g=>exact g
 | fresh g=>exact g
 | ask g=>exact g
 | choose _ g=>exact g
 | os g=>exact g
 | handled g=>exact g
 | genState q g=>exact ⟨_,q,g⟩
 | stack g=>exact g
 | thread g=>exact g
 | newGen g=>exact g
 | call g1 g2=>exact .inl ⟨_,_,g1,g2⟩
 | callSusp g=>exact .inr ⟨_,_,_,_,_,_,_,g,rfl⟩
 | yield=>exact ⟨rfl,rfl⟩
 | resumeFresh q g1 z g2=>exact ⟨_,_,by unfold Wakes;rw [q];exact ⟨_,_,g1,z,rfl,rfl⟩,g2⟩
 | resumeSuspended q g1 z g2=>exact ⟨_,_,by unfold Wakes;rw [q];exact ⟨_,_,g1,z,rfl,rfl⟩,g2⟩
 | resumeJustStarted q n g2=>
  refine ⟨.justStarted,_,?_,g2⟩;unfold Wakes;rw [q];dsimp only;split
  ·rename_i z;cases z;exact absurd rfl n
  ·exact ⟨rfl,rfl⟩
  ·rename_i z;cases z
 | resumeThrowFresh q g=>exact ⟨_,_,by unfold Wakes;rw [q];exact ⟨rfl,rfl⟩,g⟩
 | resumeRunning q g=>exact ⟨_,_,by unfold Wakes;rw [q];exact ⟨rfl,rfl⟩,g⟩
 | resumeFinished q g=>exact ⟨_,_,by unfold Wakes;rw [q];exact ⟨rfl,rfl⟩,g⟩
 | segRet g1 g2=>exact .inl ⟨_,_,g1,g2⟩
 | segGen g1 g2=>exact .inl ⟨_,_,g1,g2⟩
 | segSuspOut q g=>exact .inr ⟨_,_,_,_,_,_,_,_,g,by rw [q];exact ⟨rfl,rfl⟩⟩
 | segSuspGen q g1 _ g2=>exact .inr ⟨_,_,_,_,_,_,_,_,g1,by rw [q];exact g2⟩
theorem W8 {M:Model} {Γ:Ctx} {p:Pos} {t:Sem Fin} {fs:List Frame} {s s1:Shared} {e1:End} (h:Runs M Γ p t fs s e1 s1):∀ {e2:End} {s2:Shared},Runs M Γ p t fs s e2 s2→e1=e2∧s1=s2:=by
 induction h with
 | done=>intro e2 s2 g;obtain ⟨a,b⟩:=qH g;exact ⟨a.symm,b.symm⟩
 | raise=>intro e2 s2 g;obtain ⟨a,b⟩:=qH g;exact ⟨a.symm,b.symm⟩
 | again _ _ ih=>intro e2 s2 g;exact ih (qH g)
 | rule _ ih=>intro e2 s2 g;exact ih (qH g)
 | «at» _ ih=>intro e2 s2 g;exact ih (qH g)
 | load q _ ih=>intro e2 s2 g;obtain ⟨o,a,b⟩:=qH g;rw [q] at a;cases a;exact ih b
 | update _ _ ih=>intro e2 s2 g;exact ih (qH g)
 | loadIfAlive _ ih=>intro e2 s2 g;exact ih (qH g)
 | point _ ih=>intro e2 s2 g;exact ih (qH g)
 | alloc _ ih=>intro e2 s2 g;exact ih (qH g)
 | fresh _ ih=>intro e2 s2 g;exact ih (qH g)
 | ask _ ih=>intro e2 s2 g;exact ih (qH g)
 | choose _ _ ih=>intro e2 s2 g;exact ih (qH g)
 | os _ ih=>intro e2 s2 g;exact ih (qH g)
 | handled _ ih=>intro e2 s2 g;exact ih (qH g)
 | genState q _ ih=>intro e2 s2 g;obtain ⟨o,a,b⟩:=qH g;rw [q] at a;cases a;exact ih b
 | stack _ ih=>intro e2 s2 g;exact ih (qH g)
 | thread _ ih=>intro e2 s2 g;exact ih (qH g)
 | newGen _ ih=>intro e2 s2 g;exact ih (qH g)
 | call _ _ ih1 ih2=>
  intro e2 s2 g;rcases qH g with ⟨_,_,g1,g2⟩ | ⟨_,_,_,_,_,_,_,g1,_⟩
  ·obtain ⟨a,b⟩:=ih1 g1;cases a;cases b;exact ih2 g2
  ·obtain ⟨a,b⟩:=ih1 g1;cases a
 | callSusp _ ih=>
  intro e2 s2 g;rcases qH g with ⟨_,_,g1,g2⟩ | ⟨_,_,_,_,_,_,_,g1,z⟩
  ·obtain ⟨a,b⟩:=ih g1;cases a
  ·obtain ⟨a,b⟩:=ih g1;cases a;exact ⟨z.symm,b⟩
 | yield=>intro e2 s2 g;obtain ⟨a,b⟩:=qH g;exact ⟨a.symm,b.symm⟩
 | resumeFresh q _ _ _ ih1 ih2=>
  intro e2 s2 g;obtain ⟨res,s3,w,g2⟩:=qH g;unfold Wakes at w;rw [q] at w;obtain ⟨_,_,g1,_,rfl,rfl⟩:=w;obtain ⟨a,b⟩:=ih1 g1;cases a;cases b;exact ih2 g2
 | resumeSuspended q _ _ _ ih1 ih2=>
  intro e2 s2 g;obtain ⟨res,s3,w,g2⟩:=qH g;unfold Wakes at w;rw [q] at w;obtain ⟨_,_,g1,_,rfl,rfl⟩:=w;obtain ⟨a,b⟩:=ih1 g1;cases a;cases b;exact ih2 g2
 | resumeJustStarted q n _ ih=>
  intro e2 s2 g;obtain ⟨res,s3,w,g2⟩:=qH g;unfold Wakes at w;rw [q] at w;dsimp only at w;split at w
  ·rename_i z;cases z;exact absurd rfl n
  ·obtain ⟨rfl,rfl⟩:=w;exact ih g2
  ·rename_i z;cases z
 | resumeThrowFresh q _ ih=>
  intro e2 s2 g;obtain ⟨res,s3,w,g2⟩:=qH g;unfold Wakes at w;rw [q] at w;obtain ⟨rfl,rfl⟩:=w;exact ih g2
 | resumeRunning q _ ih=>
  intro e2 s2 g;obtain ⟨res,s3,w,g2⟩:=qH g;unfold Wakes at w;rw [q] at w;obtain ⟨rfl,rfl⟩:=w;exact ih g2
 | resumeFinished q _ ih=>
  intro e2 s2 g;obtain ⟨res,s3,w,g2⟩:=qH g;unfold Wakes at w;rw [q] at w;obtain ⟨rfl,rfl⟩:=w;exact ih g2
 | segRet _ _ ih1 ih2=>
  intro e2 s2 g;rcases qH g with ⟨_,_,g1,g2⟩ | ⟨_,_,_,_,_,_,_,_,g1,_⟩
  ·obtain ⟨a,b⟩:=ih1 g1;cases a;cases b;exact ih2 g2
  ·obtain ⟨a,b⟩:=ih1 g1;cases a
 | segGen _ _ ih1 ih2=>
  intro e2 s2 g;rcases qH g with ⟨_,_,g1,g2⟩ | ⟨_,_,_,_,_,_,_,_,g1,_⟩
  ·obtain ⟨a,b⟩:=ih1 g1;cases a;cases b;exact ih2 g2
  ·obtain ⟨a,b⟩:=ih1 g1;cases a
 | segSuspOut q _ ih=>
  intro e2 s2 g;rcases qH g with ⟨_,_,g1,g2⟩ | ⟨_,_,_,_,_,_,_,_,g1,z⟩
  ·obtain ⟨a,b⟩:=ih g1;cases a
  ·obtain ⟨a,b⟩:=ih g1;cases a;cases b;rw [q] at z;exact ⟨z.1.symm,z.2.symm⟩
 | segSuspGen q _ _ _ ih1 ih2=>
  intro e2 s2 g;rcases qH g with ⟨_,_,g1,g2⟩ | ⟨_,_,_,_,_,_,_,_,g1,z⟩
  ·obtain ⟨a,b⟩:=ih1 g1;cases a
  ·obtain ⟨a,b⟩:=ih1 g1;cases a;cases b;rw [q] at z;exact ih2 z
theorem qbq {M:Model} {Γ:Ctx} {p:Pos} {g:Nat} {r:Resume} {s s1 s2:Shared} {r1 r2:GenResult} (h:Wakes M Γ p g r s r1 s1) (h':Wakes M Γ p g r s r2 s2):r1=r2∧s1=s2:=by
 unfold Wakes at h h';cases hg:s.gens[g]? with
 | none=>rw [hg] at h;exact h.elim
 | some st=>
  rw [hg] at h h';cases st with
  | fresh c=>
   dsimp only at h h';split at h
   ·obtain ⟨a,b,c,_,rfl,rfl⟩:=h;obtain ⟨a',b',c',_,rfl,rfl⟩:=h';obtain ⟨x,y⟩:=W8 c c';cases x;cases y;exact ⟨rfl,rfl⟩
   ·obtain ⟨rfl,rfl⟩:=h;split at h'
    ·simp_all
    ·exact ⟨h'.1.symm,h'.2.symm⟩
    ·simp_all
   ·obtain ⟨rfl,rfl⟩:=h;exact ⟨h'.1.symm,h'.2.symm⟩
  | suspended k₀ l c₀ p₀ fs cl=>
   dsimp only at h h';obtain ⟨a,b,c,_,rfl,rfl⟩:=h;obtain ⟨a',b',c',_,rfl,rfl⟩:=h';obtain ⟨x,y⟩:=W8 c c';cases x;cases y;exact ⟨rfl,rfl⟩
  | running=>dsimp only at h h';exact ⟨h.1.trans h'.1.symm,h.2.trans h'.2.symm⟩
  | finished=>dsimp only at h h';exact ⟨h.1.trans h'.1.symm,h.2.trans h'.2.symm⟩
theorem qfx {α:Type} (M:Model) (Γ:Ctx) (t:Sem α):∀ (Q Q':α→Pos→Shared→Prop) (E E':Value→Pos→Shared→Prop) (p:Pos) (s:Shared),Sem.wp M Γ t Q E p s→Sem.wp M Γ t Q' E' p s→
  Sem.wp M Γ t (fun a p' s'=>Q a p' s'∧Q' a p' s') (fun e p' s'=>E e p' s'∧E' e p' s') p s:=by
 induction t with
 | pure a=>intro Q Q' E E' p s h h';exact ⟨h,h'⟩
 | raise e=>intro Q Q' E E' p s h h';exact ⟨h,h'⟩
 | unsupported _=>intro Q Q' E E' p s h _;exact h
 | finish _=>intro Q Q' E E' p s h _;exact h
 | rule _ k ih=>intro Q Q' E E' p s h h';exact ih () Q Q' E E' p s h h'
 | «at» p' k ih=>intro Q Q' E E' p s h h';exact ih () Q Q' E E' p' s h h'
 | load a _ k ih=>
  intro Q Q' E E' p s h h';obtain ⟨o,ho,h⟩:=h;obtain ⟨o',ho',h'⟩:=h';rw [ho] at ho';cases ho';exact ⟨o,ho,ih o Q Q' E E' p s h h'⟩
 | update a _ f k ih=>intro Q Q' E E' p s h h';exact ⟨h.1,ih () Q Q' E E' p _ h.2 h'.2⟩
 | loadIfAlive a k ih=>intro Q Q' E E' p s h h';exact ih _ Q Q' E E' p s h h'
 | point _ k ih=>intro Q Q' E E' p s h h';exact ih () Q Q' E E' p s h h'
 | register _ _=>intro Q Q' E E' p s h _;exact h
 | alloc o k ih=>intro Q Q' E E' p s h h';exact ih _ Q Q' E E' p _ h h'
 | fresh k ih=>intro Q Q' E E' p s h h';exact ih _ Q Q' E E' p _ h h'
 | ask k ih=>intro Q Q' E E' p s h h';exact ih _ Q Q' E E' p s h h'
 | choose src m k ih=>intro Q Q' E E' p s h h';exact ⟨h.1,ih _ Q Q' E E' p _ h.2 h'.2⟩
 | os q _ k ih=>intro Q Q' E E' p s h h';exact ih _ Q Q' E E' p _ h h'
 | call c hd _ _ k ih=>
  intro Q Q' E E' p s h h';obtain ⟨r,s1,hr,h⟩:=h;obtain ⟨r',s2,hr',h'⟩:=h';obtain ⟨x,y⟩:=W8 hr hr';cases x;cases y;exact ⟨r,s1,hr,ih r Q Q' E E' p s1 h h'⟩
 | handled own k ih=>intro Q Q' E E' p s h h';exact ih _ Q Q' E E' p s h h'
 | genState g k ih=>
  intro Q Q' E E' p s h h';obtain ⟨st,hs,h⟩:=h;obtain ⟨st',hs',h'⟩:=h';rw [hs] at hs';cases hs';exact ⟨st,hs,ih _ Q Q' E E' p s h h'⟩
 | newGen c k ih=>intro Q Q' E E' p s h h';exact ih _ Q Q' E E' p _ h h'
 | resume g r _ k ih=>
  intro Q Q' E E' p s h h';obtain ⟨res,s1,hw,h⟩:=h;obtain ⟨res',s2,hw',h'⟩:=h';obtain ⟨x,y⟩:=qbq hw hw';cases x;cases y;exact ⟨res,s1,hw,ih res Q Q' E E' p s1 h h'⟩
 | yield _ _ _ _=>intro Q Q' E E' p s h _;exact h
 | stack k ih=>intro Q Q' E E' p s h h';exact ih _ Q Q' E E' p s h h'
 | fork _ _=>intro Q Q' E E' p s h _;exact h
 | thread k ih=>intro Q Q' E E' p s h h';exact ih _ Q Q' E E' p s h h'
 | await _ _ _ _ _=>intro Q Q' E E' p s h _;exact h
theorem Jh {α:Type} {M:Model} {A:Around} {t:Sem α} {Q Q':α→Shared→Prop} {E E':Value→Shared→Prop} {s:Shared} (h:wpAny M A t Q E s) (h':wpAny M A t Q' E' s):wpAny M A t (fun a s'=>Q a s'∧Q' a s') (fun e s'=>E e s'∧E' e s') s:=
 fun Γ p hΓ=>qfx M Γ t _ _ _ _ p s (h Γ p hΓ) (h' Γ p hΓ)
theorem yN (o:Obj) (f:Array Value→Array Value):(o.mapFields f).dict=o.dict:=by
 unfold Obj.mapFields;split <;> rfl
def Dic (h:Heap) (e:Addr) (d:Option Addr):Prop:=∃ o,h.get? e=some o∧o.dict=d
def Tbk (h:Heap) (e:Addr) (d:Option Addr):Prop:=∃ (oe:Obj) (vs:Array Value) (T:Addr) (oT:Obj) (ts:Array Value),h.get? e=some oe∧oe.dict=d∧oe.data= .fields vs∧vs[1]?=some (.ref T)∧T≠e∧h.get? T=some oT∧oT.data= .fields ts∧3<ts.size
theorem qh7 {h base:Heap} {e:Addr} {cls a0 fl:Value} {d:Option Addr} (t:h.TracedAtW base e cls a0 fl) (q:Dic h e d):Tbk h e d:=by
 obtain ⟨oe,vs,T,oT,ts,he,_,hd,h1,_,hT,h2,h3,h4⟩:=t;obtain ⟨o,ho,hdi⟩:=q;rw [he] at ho;cases ho;exact ⟨oe,vs,T,oT,ts,he,hdi,hd,h1,hT,h2,h3,(Dd.mp h4).1⟩
section
variable {M:Model} {A:Around} {E:Value→Shared→Prop} {s:Shared} {e:Addr} {d:Option Addr}
theorem vb (t:Tbk s.heap e d):wpAny M A (setFlight (.ref e) none) (fun _ s'=>Dic s'.heap e d) E s:=by
 obtain ⟨oe,vs,T,oT,ts,he,hdi,hd,h1,hT,h2,h3,h4⟩:=t;unfold setFlight;refine Aa (Bs he hd h1 ?_);rw [if_pos (show (Value.ref T !=Value.none)=true from by simp)]
 exact Dr h2 h3 h4 ⟨oe,(Bn _ _ hT).trans he,hdi⟩
theorem qbd {base:Heap} {env:Env} {outer:List Env} {L:Addr} {oe:Obj} {vs:Array Value} {head:Value} {hadNext:Bool} (hfr:A.frames=some (env::outer)) (hl:s.heap.FunFrames base (env::outer)) (hf:env.frame=some L)
  (he:s.heap.get? e=some oe) (hdi:oe.dict=d) (hd:oe.data= .fields vs) (hsz:1<vs.size):
  wpAny M A (do let a ← frameOf env;let pl ← entryPlaceOf L hadNext;let b ← EntryCells.newEntry head a .none (rawInt L) .none pl;setField (.ref e) 1 b) (fun _ s'=>Tbk s'.heap e d) E s:=by
 have ne:e∉(env::outer).filterMap (·.frame):=fun hm=>by
  obtain ⟨_,o,ho,hnf⟩:=hl.mem hm;rw [he] at ho;cases ho;exact hnf vs hd
 refine Aa (wpAny_frameOf_fun hfr hl hf fun h₁ hs₁=>Aa (wpAny_entryPlaceOf fun pl hpl=>?_));unfold EntryCells.newEntry newFields;refine Aa (Cj ?_ (hpl.sizeOk5 _ _ _ _ _));have he₁:h₁.get? e=some oe:=(hs₁.2.1 e ne).trans he;have nT:h₁.objs.size≠e:=Cv (Al he₁);refine Dr (Af _ he₁) hd hsz ?_;refine ⟨_,_,h₁.objs.size,_,_,Cb _ (Af _ he₁) (En (C3 hd _)),(yN _ _).trans hdi,C3 hd _,by simp [hsz],nT,
  (Bn _ _ (Ne.symm nT)).trans (Aw h₁ rfl),rfl,?_⟩
 simp only [Ar,Ac,Aj,Bj];omega
theorem qcw {base:Heap} {env:Env} {outer:List Env} {L:Addr} {oe:Obj} {vs:Array Value} (hfr:A.frames=some (env::outer)) (hl:s.heap.FunFrames base (env::outer)) (hf:env.frame=some L)
  (he:s.heap.get? e=some oe) (hdi:oe.dict=d) (hd:oe.data= .fields vs) (h1:vs[1]?=some .none):wpAny M A (leaving env (.ref e)) (fun _ s'=>Dic s'.heap e d) E s:=by
 unfold leaving noteFrame;simp only [hf];refine Aa (Aa (Bs he hd h1 ?_));rw [if_neg O0];exact Bq (qbd hfr hl hf he hdi hd (Dd.mp h1).1) (fun _ _ t=>vb t) fun _ _ x=>x
theorem Qa {base:Heap} {env:Env} {outer:List Env} {L:Addr} {cls a0:Value} (hfr:A.frames=some (env::outer)) (hl:s.heap.FunFrames base (env::outer)) (hf:env.frame=some L) (t:s.heap.TracedW base e cls a0) (q:Dic s.heap e d):
  wpAny M A (noteFrame (.ref e) env) (fun _ s'=>Tbk s'.heap e d) E s:=by
 obtain ⟨oe,vs,T,oT,ts,he,_,hd,h1,_,hTe,hT,hdT,h3⟩:=t;obtain ⟨o,ho,hdi⟩:=q;rw [he] at ho;cases ho;unfold noteFrame;simp only [hf];refine Aa (Bs he hd h1 ?_);rw [if_pos (show (Value.ref T !=Value.none)=true from by simp)]
 refine Aa (Bs hT hdT h3 ?_);rw [if_neg (show ¬ ((Value.none==rawInt L)=true) from by simp [rawInt])]
 refine Aa (Dr hT hdT (Dd.mp h3).1 ?_);have nr:∀ b o,s.heap.get? b=some o→(∀ vs,o.data≠ .fields vs)→b≠T:=fun b o hb hnf q=>by
  rw [q,hT] at hb;cases hb;exact hnf ts hdT
 exact qbd (base:=base) hfr (hl.of_keeps fun b o hb hnf=>⟨o,(Bn _ _ (Ne.symm (nr b o hb hnf))).trans hb,rfl⟩) hf ((Bn _ _ hTe).trans he) hdi hd (Dd.mp h1).1
theorem qcv {base:Heap} {env:Env} {outer:List Env} {L:Addr} {cls a0:Value} (hfr:A.frames=some (env::outer)) (hl:s.heap.FunFrames base (env::outer)) (hf:env.frame=some L) (t:s.heap.TracedW base e cls a0) (q:Dic s.heap e d):
  wpAny M A (leaving env (.ref e)) (fun _ s'=>Dic s'.heap e d) E s:=by
 unfold leaving;exact Aa (Bq (Qa hfr hl hf t q) (fun _ _ t=>vb t) fun _ _ x=>x)
end
section
variable {prog:Program} {w:World} {A:Around} {E:Value→Shared→Prop} {h:Heap} {g:Array GenState} {d:Drawn} {t:Nat} {os:OsState}
variable {nm q:Str} {C N:Addr} {bs bm bmB:List Value} {hdct:Bool} {sn:List Str} {sub:List Value} {ab:Bool} {col:Option Bool} {dd:Option Addr} {k0 k1 k2 k3 k5:Option Value} {B newId initId:String}
theorem qhg (F:ExcBaseFacts B newId initId bmB) (T:OwnTail h bmB bm) {mN:Str→Option Value} {us:List Value} {fI:Addr} {oI:Obj} {Q:Fin→Shared→Prop} (hC:h.get? C=some (excClassObj nm q C N bs bm hdct sn sub ab col dd k0 k1 k2 k3 k5 newId)) (hn:h.Ns N mN)
  (hi:mN "__init__"=some (.ref fI)) (hfI:h.get? fI=some oI) (hfc:oI.cls= .type "function")
  (hq:∀ h' e,Heap.MadeExcOf h h' e (.ref C) us→h.objs.size≤e→wpAny (model prog w) A (call (.ref fI) (.ref e::us)) (fun r s'=>r= .none∧Q (.done (.ret (.ref e))) s') E ⟨h',g,d,t,os⟩) (hz:us.length≤sizeLine):
  wpAny (model prog w) A (Builtin.«type.__call__» ⟨.ref C::us,[]⟩) Q E ⟨h,g,d,t,os⟩:=by
 repeat (first | with_reducible refine Ej hC ?_ | with_reducible refine wpAny_madeBy_exc hC ?_ | wp_step)
 refine codeAny_call_builtin_code (Ex _ F.quiet) (wpAny_check_new_subT F T hC (codeAny_exc_new_subT F T hC ?_ hz));show wpAny _ _ _ _ _ _;have up:∀ b o,h.get? b=some o→((h.push {cls:= .type "tuple",data:= .seq us.toArray}).push {cls:= .ref C,data:= .fields #[.ref h.objs.size,.none,.none,.none,.bool false,.none]}).get? b=some o:=fun b o z=>Af _ (Af _ z);have me:((h.push {cls:= .type "tuple",data:= .seq us.toArray}).push {cls:= .ref C,data:= .fields #[.ref h.objs.size,.none,.none,.none,.bool false,.none]}).get? (h.objs.size+1)=some {cls:= .ref C,data:= .fields #[.ref h.objs.size,.none,.none,.none,.bool false,.none]}:=by heap_get
 have hm:Heap.MadeExcOf h ((h.push {cls:= .type "tuple",data:= .seq us.toArray}).push {cls:= .ref C,data:= .fields #[.ref h.objs.size,.none,.none,.none,.bool false,.none]}) (h.objs.size+1) (.ref C) us:=
  ⟨up,C8 (Ds _),h.objs.size,me,C8 (Ah _),Af _ (Heap.get?_push_at rfl rfl)⟩
 have z:=hq _ _ hm (Ds _);have hC1:=up _ _ hC;have hn1:=hn.keeps up;have hf1:=up _ _ hfI;clear hm hq;generalize ((h.push {cls:= .type "tuple",data:= .seq us.toArray}).push {cls:= .ref C,data:= .fields #[.ref h.objs.size,.none,.none,.none,.bool false,.none]})=h1 at z hC1 hn1 hf1 me ⊢;have hcC:(Value.ref C::bm).contains (.ref C)=true:=by simp
 unfold isInstance
 repeat (first | with_reducible refine Ej me ?_ | (with_reducible refine wpAny_isSubtype_exc hC1 ?_;rw [hcC]) | wp_step)
 show wpAny _ _ (typeLookup (.ref C) _) _ _ _;rw [typeLookup_eq];refine Aa (wpAny_mroOf_exc hC1 ?_);rw [lookupAlong_cons];refine Aa (wpAny_classOwn_exc hC1 hn1 ?_);rw [hi];refine Ai (B5 (Aa ?_));unfold bindSpecial;refine Aa (wpAny_typeOf (T:="function") ⟨_,hf1,hfc⟩ ?_);rw [if_pos O0];refine Ai (Aa (Bq z (fun r s' hr=>?_) fun _ _ x=>x));obtain ⟨rfl,hQ⟩:=hr
 wp_walk
 exact hQ
theorem qff (F:ExcBaseFacts B newId initId bmB) (T:OwnTail h bmB bm) {mN:Str→Option Value} {us:List Value} {fI:Addr} {oI:Obj} {Q:Value→Shared→Prop} (hC:h.get? C=some (excClassObj nm q C N bs bm hdct sn sub ab col dd k0 k1 k2 k3 k5 newId)) (hn:h.Ns N mN)
  (hi:mN "__init__"=some (.ref fI)) (hfI:h.get? fI=some oI) (hfc:oI.cls= .type "function")
  (hq:∀ h' e,Heap.MadeExcOf h h' e (.ref C) us→h.objs.size≤e→wpAny (model prog w) (A.under (.builtin "type.__call__" ⟨.ref C::us,[]⟩)) (call (.ref fI) (.ref e::us)) (fun r s'=>r= .none∧Q (.ref e) s') E ⟨h',g,d,t,os⟩) (hz:us.length≤sizeLine):
  wpAny (model prog w) A (call (.ref C) us) Q E ⟨h,g,d,t,os⟩:=by
 have f1:=tc_lookup;have f2:=tc_bind (.ref C);have hT:(⟨h,g,d,t,os⟩:Shared).TypeIs (.ref C) "type":=⟨_,hC,rfl⟩;refine Eh (codeAny_of_tree ?_);show wpAny _ _ (callAny (.ref C) _) _ _ _
 repeat (any_goals (first | assumption | with_reducible refine Ej hC ?_ | wp_step))
 refine ⟨rfl,codeAny_call_builtin_at (Ex _ ∅) entry_typeCall (wpAny_check_type_call_sub hC (qhg F T hC hn hi hfI hfc (fun h' e hm hs=>hq h' e hm hs) hz))⟩
end
section
variable {prog:Program} {w:World} {A:Around} {E:Value→Shared→Prop} {s:Shared} {env:Env}
variable {nm q:Str} {C N:Addr} {bs bm bmB:List Value} {hdct:Bool} {sn:List Str} {sub:List Value} {ab:Bool} {col:Option Bool} {dd:Option Addr} {k0 k1 k2 k3 k5:Option Value} {B newId initId:String}
theorem QH {M:Model} {x:Sem Value} {Q:Flow→Shared→Prop} (hbase:bm.contains (.type "BaseException")=true) (hh:A.handled=none)
  (h:wpAny M A x (fun v s₁=>∃ e t dx,v= .ref e∧s₁.heap.get? C=some (excClassObj nm q C N bs bm hdct sn sub ab col dd k0 k1 k2 k3 k5 newId)∧s₁.heap.get? e=some {cls:= .ref C,dict:=dx,data:= .fields #[.ref t,.none,.none,.none,.bool false,.none]}∧E (.ref e) s₁) E s):
  wpAny M A (raiseStmt env (some x) none) Q E s:=by
 have hcB:(Value.ref C::bm).contains (.type "BaseException")=true:=by rw [List.contains_cons,hbase,E8]
 unfold raiseStmt;refine Aa (Bq h (fun v s₁ h₁=>?_) fun _ _ x=>x);obtain ⟨e,t,dx,rfl,hC,he,hE⟩:=h₁;obtain ⟨hp,g,d,tk,os⟩:=s₁
 repeat (first | with_reducible refine Ej he ?_ | with_reducible refine Ej hC ?_ | (with_reducible refine wpAny_isSubtype_exc hC ?_;rw [hcB]) | wp_step)
 exact wpAny_raiseNew_none hh hE
theorem qb8 (F:ExcBaseFacts B newId initId bmB) {mN:Str→Option Value} {x:Str} {np cpos pos:Pos} {args:List Expr} {fI:Addr} {oI:Obj} {Q:Flow→Shared→Prop} (hbase:bm.contains (.type "BaseException")=true) (hh:A.handled=none)
  (hplain:(backTo cpos (starEach args env)).any (·.1)=false) (hi:mN "__init__"=some (.ref fI)) (hfc:oI.cls= .type "function")
  (h:wpAny (model prog w) A (eval (.Name x np) env) (fun f s₁=>f= .ref C∧wpAny (model prog w) A (evalArgs (.ref C) true (backTo cpos (starEach args env)) [])
   (fun a s₂=>a.kw=[]∧a.pos.length≤sizeLine∧s₂.heap.get? C=some (excClassObj nm q C N bs bm hdct sn sub ab col dd k0 k1 k2 k3 k5 newId)∧s₂.heap.Ns N mN∧OwnTail s₂.heap bmB bm∧s₂.heap.get? fI=some oI∧
    ∀ h' e,Heap.MadeExcOf s₂.heap h' e (.ref C) a.pos→s₂.heap.objs.size≤e→wpAny (model prog w) (A.under (.builtin "type.__call__" ⟨.ref C::a.pos,[]⟩)) (call (.ref fI) (.ref e::a.pos))
     (fun r s3=>r= .none∧s3.heap.get? C=some (excClassObj nm q C N bs bm hdct sn sub ab col dd k0 k1 k2 k3 k5 newId)∧(∃ t dx,s3.heap.get? e=some {cls:= .ref C,dict:=dx,data:= .fields #[.ref t,.none,.none,.none,.bool false,.none]})∧E (.ref e) s3) E {s₂ with heap:=h'}) E s₁) E s):
  wpAny (model prog w) A (exec (.Raise (some (.Call (.Name x np) args [] cpos)) none pos) env) Q E s:=by
 rw [arm_exec_Raise];refine Aa (Et (QH (C:=C) (nm:=nm) (q:=q) (N:=N) (bs:=bs) (bm:=bm) (hdct:=hdct) (sn:=sn) (sub:=sub) (ab:=ab) (col:=col) (dd:=dd) (k0:=k0) (k1:=k1) (k2:=k2) (k3:=k3) (k5:=k5) (newId:=newId) hbase hh ?_));refine Aa (Bq (wpAny_Call_ofName (Bq h (fun f s₁ h₁=>?_) fun _ _ x=>x)) (fun v s₃ h₃=>Aa (Et (Ai h₃))) fun _ _ x=>x);obtain ⟨rfl,h₁⟩:=h₁;unfold callWith;refine Aa (B5 (Bq h₁ (fun a s₂ h₂=>Aa (Et ?_)) fun _ _ x=>x));obtain ⟨apos,akw⟩:=a;obtain ⟨hkw,hlen,hC,hn,T,hfI,h₂⟩:=h₂;obtain rfl:akw=[]:=hkw;obtain ⟨hp,g,d,tk,os⟩:=s₂;simp only [hplain];refine Aa (wpAny_keeperOf_exc hC ?_);refine Aa (qff F T hC hn hi hfI hfc (fun h' e hm hs=>Bq (h₂ h' e hm hs) (fun r s3 hr=>⟨hr.1,Aa (B5 (wpAny_point (Ai ?_)))⟩) fun _ _ x=>x) hlen);obtain ⟨_,hC3,⟨t,dx,he⟩,hE⟩:=hr;exact ⟨e,t,dx,rfl,hC3,he,hE⟩
end
end L2
namespace L2
open PySem PySem.Spec PyProof.Rows
def qft (h:Heap) (e:Addr) (d:Option Addr):Prop:=∀ dx,d=some dx→Dic h e (some dx)
abbrev CX2 (P:Program) (w:World):CXT:=fun outer H s E e s'=>∃ ea C d H',e= .ref ea∧Fly P w outer H s H' ea C s'∧qft s'.heap ea d∧E C d H'
section
variable {P:Program} {w:World} {K:Frag} {mg:Str→Option Value} {base:Heap} {N:List Str} {qual:Str} {scope:Scope} {f:Addr} {cd:Value} {A:Around} {outer:List Env} {s₀:Shared} {H₀:Hp} {E:XK}
theorem qkw:Jt (CX2 P w) (j4 (CX2 P w) P w K mg base N qual scope f cd A outer s₀ H₀ E) E:=by
 intro pins σ H s e s' I h;obtain ⟨ea,C,d,H',rfl,F,hd,q⟩:=h;have I1:Inv (j4 (CX1 P w) P w K mg base N qual scope f cd A outer s₀ H₀ E) pins σ H s:=I.wish (j4 (CX1 P w) P w K mg base N qual scope f cd A outer s₀ H₀ E).xe;cases d with
 | none=>exact qa9 I1 F fun s'' F'=>⟨ea,C,none,H',rfl,F',(fun _ z=>nomatch z),q⟩
 | some dx=>
  obtain ⟨B,a0,fl,hB⟩:=F.fly;have a:=qa9 (Q:=fun _ s''=>Fly P w outer H₀ s₀ H' ea C s'') (E':=fun _ _=>False) I1 F fun s'' F'=>F';have b:=qcv (M:=model P w) (A:=A.deeper (envOfC qual scope s₀.heap.objs.size f cd)) (E:=fun _ _=>False) (L:=s₀.heap.objs.size) I.ok.frames fl.2.2.1 rfl fl.2.2.2 (hd dx rfl);exact Bq (Jh a b) (fun _ s'' z=>⟨ea,C,some dx,H',rfl,z.1,fun _ y=>y▸z.2,q⟩) fun _ _ z=>z.1.elim
theorem qge {pins:List (Addr×Obj)} {σ:St} {H:Hp} {s:Shared} {e t:Addr} {C:Value} {d:Option Addr} (I:Inv (j4 (CX2 P w) P w K mg base N qual scope f cd A outer s₀ H₀ E) pins σ H s) (he:s.heap.get? e=some {cls:=C,dict:=d,data:= .fields #[.ref t,.none,.none,.none,.bool false,.none]})
  (hn:H e=none) (h0:s₀.heap.get? e=none) (q:E C d H):(j4 (CX2 P w) P w K mg base N qual scope f cd A outer s₀ H₀ E).xe (.ref e) s:=by
 show wpAny (model P w) (A.deeper (envOfC qual scope s₀.heap.objs.size f cd)) (leaving (envOfC qual scope s₀.heap.objs.size f cd) (.ref e)) (fun _ s''=>CX2 P w outer H₀ s₀ E (.ref e) s'') (fun e' s''=>CX2 P w outer H₀ s₀ E e' s'') s;have fc:frs (envOfC qual scope s₀.heap.objs.size f cd::outer)=s₀.heap.objs.size::frs outer:=yC rfl outer;have U1:Un (frs outer) [] H₀ H s₀.heap s.heap:=I.base;have stk:s.heap.FunFrames base (envOfC qual scope s₀.heap.objs.size f cd::outer):=I.stack;have fre:∀ b∈frs (envOfC qual scope s₀.heap.objs.size f cd::outer),H b=none:=I.stkFree;have hd:∀ b∈frs (envOfC qual scope s₀.heap.objs.size f cd::outer),∀ o,s.heap.get? b=some o→∀ vs,o.data≠ .fields vs:=fun b hb o z vs=>by
  obtain ⟨_,o1,e1,d1⟩:=stk.mem (b:=b) hb;rw [z] at e1;cases e1;exact d1 vs
 have eF:e∉frs (envOfC qual scope s₀.heap.objs.size f cd::outer):=fun z=>hd e z _ he _ rfl;have hin:∀ env∈(envOfC qual scope s₀.heap.objs.size f cd::outer),∀ b,env.frame=some b→b∈e::frs (envOfC qual scope s₀.heap.objs.size f cd::outer):=fun env he b hb=>Am _ (Ey.mpr ⟨env,he,hb⟩);have a:=wpAny_leaving_firstW (M:=model P w) (A:=A.deeper (envOfC qual scope s₀.heap.objs.size f cd)) (E:=fun _ _=>False) (Q:=fun _ s''=>∃ h2,s''={s with heap:=h2}∧Heap.LeftW (PySem.W.hideAll s.heap (e::frs (envOfC qual scope s₀.heap.objs.size f cd::outer))) (envOfC qual scope s₀.heap.objs.size f cd::outer) e C (.ref t) s.heap h2)
  (L:=s₀.heap.objs.size) (a0:= .ref t) I.ok.frames (PySem.W.funFrames_hide stk hin) rfl he (fun b o z=>PySem.W.of_hideAll _ z) (PySem.W.hideAll_none _ Au) rfl rfl rfl fun h2 z=>⟨h2,rfl,z⟩
 have b:=qcw (M:=model P w) (A:=A.deeper (envOfC qual scope s₀.heap.objs.size f cd)) (E:=fun _ _=>False) (L:=s₀.heap.objs.size) (d:=d) I.ok.frames stk rfl he rfl rfl rfl;refine Bq (Jh a b) (fun _ s'' z=>?_) fun _ _ z=>z.1.elim;obtain ⟨⟨h2,rfl,k1,⟨_,_,k2⟩,k3,sm⟩,di⟩:=z;refine ⟨e,C,d,H,rfl,?_,fun dx y=>y▸di,q⟩;have nL:∀ b o,s₀.heap.get? b=some o→b≠s₀.heap.objs.size:=fun b o z=>A8 (Al z);have n0:∀ b o,s₀.heap.get? b=some o→b≠e:=fun b o z y=>by rw [y,h0] at z;cases z
 have nf:∀ b o,s₀.heap.get? b=some o→b∉frs outer→b∉e::frs (envOfC qual scope s₀.heap.objs.size f cd::outer):=fun b o z hb y=>by
  rcases Ap.mp y with y | y
  ·exact n0 b o z y
  ·rw [fc] at y;rcases Ap.mp y with y | y
   ·exact nL b o z y
   ·exact hb y
 have nt:∀ c v,H c=some v→c∉e::frs (envOfC qual scope s₀.heap.objs.size f cd::outer):=fun c v z y=>by
  rcases Ap.mp y with y | y
  ·rw [y,hn] at z;cases z
  ·rw [fre c y] at z;cases z
 have stay:∀ b o,s.heap.get? b=some o→b∉e::frs (envOfC qual scope s₀.heap.objs.size f cd::outer)→h2.get? b=some o:=fun b o z n=>k1 b o (Ea _ z n);have slots:∀ b∈frs outer,∀ o,s.heap.get? b=some o→∃ sl,h2.get? b=some {o with slots:=sl}:=fun b hb o z=>sm b o z (hd b (by rw [fc];exact Am _ hb) o z)
 refine ⟨I.os,I.bare,⟨fun b o z n hb hx=>?_,fun b o z n hb hx=>?_,U1.free,fun b o z hx=>?_,U1.tups,U1.frzs,U1.tbls⟩,fun b u z=>?_,fun b hb=>fre b (by rw [fc];exact Am _ hb),_,.ref t,⟨k1,PySem.W.hideAll_none _ Au,k2,k3⟩,fun b o z y n=>?_⟩
 ·exact stay b o (U1.keep b o z n hb hx) (nf b o z hb)
 ·obtain ⟨sl,e1⟩:=U1.slot b o z n hb hx;obtain ⟨sl2,e2⟩:=slots b hb _ e1;exact ⟨sl2,e2⟩
 ·obtain ⟨o1,e1⟩:=U1.there b o z hx
  by_cases hb:b∈frs outer
  ·obtain ⟨sl2,e2⟩:=slots b hb _ e1;exact ⟨_,e2⟩
  ·exact ⟨o1,stay b o1 e1 (nf b o z hb)⟩
 ·refine (I.hok b u z).stay (fun c v hc y=>?_) (fun _ y=>y) fun _ _ y=>y;rcases hc with rfl | hc
  ·exact stay c v y (nt c _ z)
  ·exact stay c v y (nt c _ hc)
 ·have e0:∃ o1,s.heap.get? b=some o1∧b∉e::frs (envOfC qual scope s₀.heap.objs.size f cd::outer):=by
   rcases y with y | ⟨o0,y⟩
   ·cases q2:H b with
    | none=>exact absurd q2 y
    | some u=>
     obtain ⟨o1,e1⟩:=(I.hok b u q2).there;exact ⟨o1,e1,nt b u q2⟩
   ·obtain ⟨o1,e1⟩:=U1.there b o0 y (by simp)
    exact ⟨o1,e1,nf b o0 y n⟩
  obtain ⟨o1,e1,n1⟩:=e0;have e2:=stay b o1 e1 n1;have z':h2.get? b=some o:=z;rw [z'] at e2;cases e2;exact Ea _ e1 n1
theorem Fun.ok2 {x qual:Str} {st:Stmt} {f:Addr} {fd:FuncData} {N ps:List Str} {k:Nat} {sp:Sp} (F:Fun K x qual st f fd) (S:FnScope N ps (qj st)) (len:∀ vs H Q E,sp vs H Q E→vs.length=ps.length)
  (hbody:∀ (cdv:Value) (A:Around) (outer:List Env) (s:Shared) (H:Hp) (vs:List V) (Q:VK) (E:XK),Room k (A.deeper (envOfC qual (qj st) s.heap.objs.size f cdv))→sp vs H Q E→
   ∃ t,PSs (j4 (CX2 P w) P w K mg base N qual (qj st) f cdv A outer s H E) (jU st) t∧t {nx:=fun _ H'=>Q .non H',rt:=Q} (Jb N vs) H):FnOk P w K mg base (CX2 P w) (k+1) f fd ps sp:=by
 obtain ⟨oc,od,kV,doc,pm,an,cdv,ct,osl,rfl,lk,hcd⟩:=F.ex;exact qfc lk hcd S len fun A outer s H vs Q E hr hsp=>hbody cdv A outer s H vs Q E hr hsp
end
structure DefY (P:Program) (w:World) (K:Frag) (mg:Str→Option Value) (base:Heap) (k:Nat) (x:Str) (ps:List Str) (sp:Sp):Prop where
 ex:∃ (f:Addr) (fd:FuncData),FnOk P w K mg base (CX2 P w) k f fd ps sp∧Jd K fd ps []∧PySem.W.keepIn K (.ref f)=true∧mg x=some (.ref f)
theorem qat {X:Cx} {k:Nat} {x:Str} {ps:List Str} {sp:Sp} {E:XK} {e:Expr} {es:List Expr} {t:TA} {p pos:Pos} (D:DefY X.prog X.w X.K X.mg X.base k x ps sp) (hr:Room k X.A) (hx:Jt (CX2 X.prog X.w) X E) (ha:PA X (e::es) t) (hg:Gl X x:=by rfl)
  (hdb:(x==("__debug__":Str))=false:=by decide) (he:starEach (e::es) X.env=(false,eval e X.env)::starEach es X.env:=by rfl) (hpl:(backTo pos (starEach es X.env)).any (·.1)=false:=by rfl):
  PE X (.Call (.Name x p) (e::es) [] pos) (qE sp [] E t):=by
 obtain ⟨f,fd,F,B,kp,m⟩:=D.ex;exact Xr F hr hg m kp B .nil hx ha hdb he hpl
def qle (h:Heap) (a:Addr):Prop:=∃ o,h.get? a=some o∧PySem.W.notCls o=true
def yH (a C:Addr) (d:Option Addr):HO:= .ext fun h=>Jc a C h∧qft h a d∧qle h a
theorem qhi {P:Program} {w:World} {H:Hp} {h:Heap} {a C:Addr} {d:Option Addr} (p:Jc a C h) (q:qft h a d) (n:qle h a):zd P w H h a (yH a C d):=by
 refine ⟨⟨p,q,n⟩,?_,fun h1 h2 q k=>⟨?_,fun dx z=>?_,?_⟩⟩
 ·obtain ⟨o,e,_⟩:=p;exact ⟨o,e⟩
 ·obtain ⟨o,e,c⟩:=q.1;exact ⟨o,k o e,c⟩
 ·obtain ⟨o,e,c⟩:=q.2.1 dx z;exact ⟨o,k o e,c⟩
 ·obtain ⟨o,e,c⟩:=q.2.2;exact ⟨o,k o e,c⟩
section
variable {X:Cx} {pins:List (Addr×Obj)}
abbrev Cx.tryD (X:Cx) (pins:List (Addr×Obj)) (E1:XK):Cx:=(X.more pins).wish fun e s'=>∃ (ps:List (Addr×Obj)) (σ':St) (H0:Hp) (s0:Shared),Inv (X.more pins) ps σ' H0 s0∧CX2 X.prog X.w X.stack H0 s0 E1 e s'
theorem qkv {E1:XK}:Jt (CX2 X.prog X.w) (X.tryD pins E1) E1:=fun ps σ H s _ _ I h=>⟨ps,σ,H,s,I.unwish,h⟩
end
def qj7 (K:Frag) (CL:Addr) (tb:XK→TS) (i:Nat) (ts:TS):TS:=fun D σ H=>
 tb (fun C d H'=>∃ Ca,C= .ref Ca∧PySem.W.exmOne K (.ref Ca) (.ref CL)=some true∧∀ ea,H' ea=none→
  ts {nx:=fun σ' H2=>D.nx (vI σ') H2,rt:=D.rt,bk:=fun σ' H2=>D.bk (vI σ') H2,ct:=fun σ' H2=>D.ct (vI σ') H2} ((vI σ).set i (some (.ref ea))) (upd H' ea (yH ea Ca d))) D σ H
theorem qgo {X:Cx} {K:Frag} {CL:Addr} {body suite:List Stmt} {b₀:Stmt} {hx n:Str} {i:Nat} {tb:XK→TS} {ts:TS} {np hpos pos:Pos} (hK:X.K=K)
  (hb:∀ pins E1,PSs (X.tryD pins E1) body (tb E1)) (hs:∀ ea,PSs (X.suite ea) (b₀::suite) ts) (hm:X.mg hx=some (.ref CL)) (nd:X.N.Nodup) (hi:X.N[i]?=some n)
  (hl:X.env.scope.names.lookup n=some .local:=by rfl) (hg:Gl X hx:=by rfl) (hdb:(hx==("__debug__":Str))=false:=by decide) (hstk:X.stack=X.env::X.outer:=by rfl) (hf:X.env.frame=some X.env.locals:=by rfl) (hex0:X.ex=[]:=by rfl)
  (hcls:(X.env.scope.kind== .class||(X.env.scope.kind== .module&&X.env.locals !=X.env.globals))=false:=by rfl):
  PS X (.Try body [.ExceptHandler (some (.Name hx np)) (some n) (b₀::suite) hpos] [] [] pos) (qj7 K CL tb i ts):=by
 intro pins s σ H D I h;subst hK;refine wpAny_Try_except (Bq (hb pins _ [] s σ H D (I.more.wish _) h) (fun f s1 sp=>?_) fun e s1 he=>?_)
 ·have sp':SP X pins D f s1:=SP.less (SP.unwish sp);cases f with
  | next=>exact Ai sp'
  | brk=>exact sp'
  | cont=>exact sp'
  | ret u=>exact sp'
 obtain ⟨ps,σ',H0,s0,I0,ea,C,d,H',rfl,F,hdi,q⟩:=he;obtain ⟨Ca,rfl,hex,q⟩:=q;obtain ⟨B,a0,fl,hB⟩:=F.fly;have inF:∀ {h:Heap},Heap.FlyingW B X.stack ea (.ref Ca) a0 h→∀ b∈frs X.stack,∃ o,h.get? b=some o∧∀ vs,o.data≠ .fields vs:=fun {h} fl b hb=>(fl.2.2.1.mem hb).2;have eaF:ea∉frs X.stack:=fun z=>by
  obtain ⟨o,e1,d1⟩:=inF fl ea z;obtain ⟨oe,vs,e2,_,d2,_⟩:=fl.first
  rw [e1] at e2;cases e2;exact d1 vs d2
 have hdF:∀ {h:Heap},Heap.FlyingW B X.stack ea (.ref Ca) a0 h→∀ b∈frs X.stack,∀ o,h.get? b=some o→∀ vs,o.data≠ .fields vs:=fun fl b hb o e vs=>by
  obtain ⟨o1,e1,d1⟩:=inF fl b hb;rw [e] at e1;cases e1;exact d1 vs
 have new0:∀ o,s0.heap.get? ea=some o→False:=fun o e=>by
  obtain ⟨oe,vs,e2,_⟩:=fl.first
  have:=hB ea oe e2 (.inr ⟨o,e⟩) eaF;rw [fl.2.1] at this;cases this
 have newH:H' ea=none:=by
  cases z:H' ea with
  | none=>rfl
  | some u=>
   obtain ⟨oe,vs,e2,_⟩:=fl.first
   have:=hB ea oe e2 (.inl (by rw [z];simp)) eaF
   rw [fl.2.1] at this;cases this
 have again:∀ {h:Heap},Heap.FlyingW B X.stack ea (.ref Ca) a0 h→s1.heap.UpToSlots h→Inv X pins σ' H' {s1 with heap:=h}:=fun {h} fl' sm=>by
  have F':=qfd F hB fl' sm (hdF fl);exact (I0.call' (ch:=[]) F'.os F'.un F'.hok F'.bare fun b z=>absurd z (by simp)).less
 have hfr:X.A.frames=some (X.env::X.outer):=hstk▸I.ok.frames;have w1:=wpAny_looks_onW (M:=model X.prog X.w) (A:=X.A) (E:=fun _ _=>False) (Q:=fun _ s4=>∃ h4,s4={s1 with heap:=h4}∧Heap.HeldW B (X.env::X.outer) ea (.ref Ca) a0 X.env.locals h4∧s1.heap.UpToSlots h4) (base:=B) (a0:=a0) (cls:= .ref Ca) (L:=X.env.locals) hfr hf (hstk▸fl) fun h4 a b=>⟨h4,rfl,a,b⟩
 have w2:wpAny (model X.prog X.w) X.A (noteFrame (.ref ea) X.env) (fun _ s4=>∀ dx,d=some dx→Tbk s4.heap ea (some dx)) (fun _ _=>True) s1:=by
  cases d with
  | none=>exact Bq w1 (fun _ _ _ dx z=>nomatch z) fun _ _ _=>trivial
  | some dx=>exact Bq (Qa (E:=fun _ _=>True) hfr (hstk▸fl).2.2.1 hf (hstk▸fl).2.2.2 (hdi dx rfl)) (fun _ _ z dy y=>y▸z) fun _ _ z=>z
 refine Bq (Jh w1 w2) (fun _ s4 z4=>?_) fun _ _ z=>z.1.elim;obtain ⟨⟨h4,rfl,held4,sm4⟩,t4⟩:=z4;have w3:=wpAny_landsW (M:=model X.prog X.w) (A:=X.A) (E:=fun _ _=>False) (s:={s1 with heap:=h4}) (Q:=fun _ s5=>∃ h5,s5={s1 with heap:=h5}∧Heap.FlyingW B (X.env::X.outer) ea (.ref Ca) a0 h5∧h4.UpToSlots h5) held4 fun h5 a b=>⟨h5,rfl,a,b⟩
 have w4:wpAny (model X.prog X.w) X.A (setFlight (.ref ea) none) (fun _ s5=>qft s5.heap ea d) (fun _ _=>True) {s1 with heap:=h4}:=by
  cases d with
  | none=>exact Bq w3 (fun _ _ _ dx z=>nomatch z) fun _ _ _=>trivial
  | some dx=>exact Bq (vb (E:=fun _ _=>True) (t4 dx rfl)) (fun _ _ z dy y=>y▸z) fun _ _ z=>z
 refine Bq (Jh w3 w4) (fun _ s5 z5=>?_) fun _ _ z=>z.1.elim;obtain ⟨⟨h5,rfl,fl5,sm5⟩,d5⟩:=z5;have fl5':Heap.FlyingW B X.stack ea (.ref Ca) a0 h5:=hstk▸fl5;have I5:=again fl5' (sm4.trans sm5);refine wpAny_handleBy_cons (codeAny_handlers_test (JD (I5.suite ea) hg hm ?_ hdb)) (by intro z;cases z)
 have lk:PySem.W.Looks (model X.prog X.w) h5 (typeOf (.ref ea)) (.ref Ca):=by
  obtain ⟨ob,e1,c1⟩:=fl5'.there;exact c1▸(PySem.W.Looks.ld e1).andThen .now
 refine (PySem.W.exm_one I5.kIn lk hex).here ?_;have w5:=lands_againW (M:=model X.prog X.w) (A:=X.A.mark (some (.ref ea))) (E:=fun _ _=>False) (s:={s1 with heap:=h5}) (Q:=fun _ s6=>∃ h6,s6={s1 with heap:=h6}∧Heap.FlyingW B X.stack ea (.ref Ca) a0 h6∧h5.UpToSlots h6) fl5' fun h6 a b=>⟨h6,rfl,a,b⟩
 have w6:wpAny (model X.prog X.w) (X.A.mark (some (.ref ea))) (setFlight (.ref ea) none) (fun _ s6=>qft s6.heap ea d) (fun _ _=>True) {s1 with heap:=h5}:=by
  cases d with
  | none=>exact Bq w5 (fun _ _ _ dx z=>nomatch z) fun _ _ _=>trivial
  | some dx=>exact Bq (vb (E:=fun _ _=>True) (qh7 fl5'.2.2.2.at (d5 dx rfl))) (fun _ _ z dy y=>y▸z) fun _ _ z=>z
 refine codeAny_handlers_suite_as (Bq (Jh w5 w6) (fun _ s6 z6=>?_) fun _ _ z=>z.1.elim);obtain ⟨⟨h6,rfl,fl6,sm6⟩,d6⟩:=z6;have I6:=again fl6 ((sm4.trans sm5).trans sm6);have len6:σ'.length=σ.length:=I0.len.trans I.len.symm;have I7:Inv X pins (vI σ) H' {s1 with heap:=h6}:=I6.weak (by rw [blank_len,len6]) fun j v e=>(Y7 e).elim
 have at0:∀ b o,X.s₀.heap.get? b=some o→b∉X.ex→∃ o',s0.heap.get? b=some o':=fun b o e hx=>I0.base.there b o e hx;have I8:Inv X pins (vI σ) (upd H' ea (yH ea Ca d)) {s1 with heap:=h6}:=by
  refine I7.trackN newH (fun z=>eaF ?_) ?_ (fun x c e z=>?_) (fun p hp z=>?_) (qhi ?_ d6 (by obtain ⟨oe,vs,e2,_,e3,_⟩:=fl6.first;exact ⟨oe,e2,by unfold PySem.W.notCls;rw [e3]⟩))
  ·rw [hstk];unfold frs;rw [Eb,hf,z];exact Au
  ·cases z:X.s₀.heap.get? ea with
   | none=>rfl
   | some o=>
    exfalso
    obtain ⟨o',e'⟩:=at0 ea o z (by rw [hex0];simp)
    exact new0 o' e'
  ·obtain ⟨v,o,ho,_⟩:=I0.cell x c e;rw [z] at ho;exact new0 o ho
  ·have:=(I0.pin p (B7 _ hp)).1;rw [z] at this;exact new0 _ this
  ·obtain ⟨ob,e1,c1⟩:=fl6.there;exact ⟨ob,e1,c1⟩
 refine VQ I8 nd hi (.inl hl) (v:= .ref ea) rfl (fun s7 I9=>?_) (.inr hl);refine Bq (hs ea pins s7 _ _ _ (I9.suite ea) (q ea newH)) (fun f s8 sp=>?_) fun _ _ z=>z.elim;have fin:∀ {σ9:St} {H9:Hp},Inv (X.suite ea) pins σ9 H9 s8→∀ {g:Flow},(∀ s9,Inv X pins (vI σ9) H9 s9→SP X pins D g s9)→
   wpAny (model X.prog X.w) X.A (do bindName X.env n .none;unbindBehindTheSuite X.env n hpos) (fun _ s9=>SP X pins D g s9) X.xe s8:=fun {σ9 H9} J g k=>by
  obtain ⟨m,hn,_⟩:=J.loc;exact wpAny_nameGoes hl hn hcls fun h' m' hn' sb=>k _ ((J.unsuite I.ok).lost hn' sb)
 cases f with
 | next=>obtain ⟨σ9,H9,J,z⟩:=sp;exact fin J fun s9 J9=>⟨_,_,J9,z⟩
 | brk=>obtain ⟨σ9,H9,J,z⟩:=sp;exact fin J fun s9 J9=>⟨_,_,J9,z⟩
 | cont=>obtain ⟨σ9,H9,J,z⟩:=sp;exact fin J fun s9 J9=>⟨_,_,J9,z⟩
 | ret u=>obtain ⟨v,σ9,H9,J,r,z⟩:=sp;exact fin J fun s9 J9=>⟨v,_,_,J9,r,z⟩
def qkm (K:Frag):List V→Hp→VK→Prop:=fun xs H Q=>∃ (a C:Addr) (d:Option Addr) (c:V) (b:Bool),xs=[.ref a,c]∧H a=some (yH a C d)∧XK1 K C∧
 ((∃ cv,qc4 c=some cv∧PySem.W.kitOne K (.ref C) cv=some b)∨∃ p cs vs,c= .ref p∧H p=some (.tup cs)∧cs.mapM qc4=some vs∧PySem.W.kitAny K (.ref C) vs=some b)∧Q (.bl b) H
theorem XF {X:Cx} {K:Frag} (hK:X.K=K):jK X (.builtin "isinstance") (qkm K):=by
 subst hK;intro pins s σ H xs us Q I r h;obtain ⟨a,C,d,c,b,rfl,ha,x1,hc,q⟩:=h;obtain ⟨u,v,rfl,ru,rv⟩:=qae r;cases (show u=Value.ref a from ru);have p:Jc a C s.heap:=(show zd X.prog X.w H s.heap a (yH a C d) from I.hok a _ ha).1.1;rcases hc with ⟨cv,e1,e2⟩ | ⟨tp,cs,vs,rfl,ht,e1,e2⟩
 ·cases Qb e1 rv;exact B9 x1.kitx I.kIn p e2 (fun z=>nomatch z) fun tk=>⟨.bl b,H,I.tok tk,rfl,q⟩
 ·cases (show v=Value.ref tp from rv);obtain ⟨_,its,rv',⟨o,ho,hcl,n,hd⟩⟩:=(show zd X.prog X.w H s.heap tp (.tup cs) from I.hok tp _ ht);cases Qc e1 rv';obtain ⟨oc,od,oda,osl⟩:=o;cases hcl;cases hd;exact PySem.W.kia_tup x1.kitx I.kIn p ho e2 (fun z=>nomatch z) fun tk=>⟨.bl b,H,I.tok tk,rfl,q⟩
section
variable {prog:Program} {w:World} {A:Around} {E:Value→Shared→Prop} {h:Heap} {g:Array GenState} {d:Drawn} {t:Nat} {os:OsState}
variable {nm q:Str} {C N:Addr} {bs bm bmB:List Value} {hdct:Bool} {sn:List Str} {sub:List Value} {ab:Bool} {col:Option Bool} {dd:Option Addr} {k0 k1 k2 k3 k5:Option Value} {B newId initId:String}
theorem qdb (F:ExcBaseFacts B newId initId bmB) (T:OwnTail h bmB bm) {us:List Value} {e t0:Addr} {Q:Value→Shared→Prop} (hC:h.get? C=some (excClassObj nm q C N bs bm hdct sn sub ab col dd k0 k1 k2 k3 k5 newId))
  (he:h.get? e=some {cls:= .ref C,data:= .fields #[.ref t0,.none,.none,.none,.bool false,.none]}) (hz:us.length≤sizeLine)
  (hq:∀ h',(∀ b o,b≠e→h.get? b=some o→h'.get? b=some o)→(∃ t1,h'.get? e=some {cls:= .ref C,data:= .fields #[.ref t1,.none,.none,.none,.bool false,.none]})→Q .none ⟨h',g,d,t,os⟩):
  wpAny (model prog w) A (call (.builtin initId) (.ref e::us)) Q E ⟨h,g,d,t,os⟩:=by
 refine Eh (Di F.init.plain F.initEntry (wpAny_check_init_subT F T hC he rfl ?_))
 wp_walk
 refine hq _ (fun b o hb z=>?_) ⟨h.objs.size,?_⟩
 ·rw [Bn _ _ (Ne.symm hb)];exact Af _ z
 ·rw [Cb _ (Af _ he) rfl];rfl
end
section
variable {prog:Program} {w:World} {A:Around} {E:Value→Shared→Prop} {s:Shared} {K:Frag} {C L x:Addr} {name:Str}
structure XSet (K:Frag) (C:Addr) (name:Str):Prop where
 sa:PySem.W.findIn K (.ref C) "__setattr__"=some (some (.builtin "object.__setattr__"))
 nm:PySem.W.findIn K (.ref C) name=some none
 cl:∃ cd L,PySem.W.clsIn K C=some cd∧cd.mro= .ref C:: .ref L::bmVE∧cd.hasDict=true
theorem qhf {ox:Obj} {v:Value} {Q:Unit→Shared→Prop} (X:K.In s.heap) (S:XSet K C name) (hx:s.heap.get? x=some ox) (hcl:ox.cls= .ref C) (hdn:ox.dict=none) (hnc:PySem.W.notCls ox=true)
  (h:∀ h' tk',h'.get? x=some {ox with dict:=some s.heap.objs.size}→h'.Ns1 s.heap.objs.size (fun y=>if y=name then some v else none)→(∀ b o,b≠x→s.heap.get? b=some o→h'.get? b=some o)→Q () {s with heap:=h',toks:=tk'}):
  wpAny (model prog w) A (setAttr (.ref x) name v) Q E s:=by
 obtain ⟨cd,L,hc,hm,hh⟩:=S.cl;have SF:=PySem.F.store_object;have I:PySem.W.InstAt s.heap x ox C none:=⟨hx,hcl,hnc,by rw [hdn];trivial⟩
 have sub:PySem.W.Looks (model prog w) s.heap (isInstance (.ref x) (.type "object")) true:=I.type.andThen (PySem.W.looks_mroIn X (by unfold PySem.W.mroIn;rw [hc,Option.bind_some,if_neg (by rw [hm];exact Ag),hm];rfl))
 have hml:PySem.W.Looks (model prog w) s.heap (mroOf (.ref C)) cd.mro:=(PySem.W.looks_clsIn X hc).andThen .now;refine PySem.W.set_plain X I S.sa ?_;refine Di SF.slot.plain SF.entry (@PySem.W.check_slot (model prog w) _ _ {s with toks:=s.toks+1} "object.__setattr__" "object" "__setattr__" (.ref x) [.str name s.toks,v] [] _ SF.kind SF.split sub (SF.args (.ref x) (.str name s.toks) v) ?_)
 rw [PySem.W.osa_eq,refuse_eq];refine Aa (Aa (Dw (s:={s with toks:=s.toks+1}) I.type (Aa (Dw (s:={s with toks:=s.toks+1}) hml ?_))))
 rw [hm,refuseLoop_ref,refuseLoop_ref,PySem.F.store_ValueError.passes];refine Ai (Aa (Dw (s:={s with toks:=s.toks+1}) I.type (Aa (Dw (s:={s with toks:=s.toks+1}) (C7 X S.nm) (Aa (Ai ?_))))))
 dsimp only;refine Aa (Ai (Aa (Aa (wpAny_loadPart hx ?_))));rw [hcl];refine Aa (Dw (s:={s with toks:=s.toks+1}) (PySem.W.looks_clsIn X hc) ?_)
 rw [hh,hdn];rw [if_neg O0];dsimp only;rw [if_neg (show ¬ ((!true||!typeHasDict (Value.ref C))=true) from Ag)];split
 ·rename_i c hcd;unfold PySem.W.notCls at hnc;rw [hcd] at hnc;cases hnc
 ·have hx1:(s.heap.push {cls:= .type "dict",data:= .dict #[]}).get? x=some ox:=Af _ hx;have hxs:x≠s.heap.objs.size:=A8 (Al hx);refine Aa (wpAny_alloc' (Aa (wpAny_update' hx1 (Ai ?_))));have hgd:((s.heap.push {cls:= .type "dict",data:= .dict #[]}).update x fun o=>{cls:=o.cls,dict:=some s.heap.objs.size,data:=o.data,slots:=o.slots}).get? s.heap.objs.size=some {cls:= .type "dict",data:= .dict #[]}:=
   (Heap.get?_update_ne _ _ _ _ hxs.symm).trans (Heap.get?_push_at rfl rfl)
  have hnd:((s.heap.push {cls:= .type "dict",data:= .dict #[]}).update x fun o=>{cls:=o.cls,dict:=some s.heap.objs.size,data:=o.data,slots:=o.slots}).Ns s.heap.objs.size (fun _=>none):=
   ⟨_,#[],_,hgd,rfl,fun e he=>absurd he (by simp),fun _=>rfl⟩
  have hxf:((s.heap.push {cls:= .type "dict",data:= .dict #[]}).update x fun o=>{cls:=o.cls,dict:=some s.heap.objs.size,data:=o.data,slots:=o.slots}).get? x=some {ox with dict:=some s.heap.objs.size}:=by
   refine Cb _ hx1 ?_;have hfr:=(Heap.get?_some_iff.mp hx).2;obtain ⟨oc,od,odt,osl⟩:=ox;cases odt <;> first | rfl | exact hfr
  have hoth:∀ b o,b≠x→s.heap.get? b=some o→((s.heap.push {cls:= .type "dict",data:= .dict #[]}).update x fun o=>{cls:=o.cls,dict:=some s.heap.objs.size,data:=o.data,slots:=o.slots}).get? b=some o:=fun b o hb z=>
   (Heap.get?_update_ne _ _ _ _ hb).trans (Af _ z)
  dsimp only;show wpAny _ _ (Builtin.ObjectAttr.storeInDict s.heap.objs.size (.str name s.toks) name v) _ _ _;unfold Builtin.ObjectAttr.storeInDict Builtin.ObjectAttr.newKeyGuard;refine Aa (Ai (Aa (wpAny_nsSet1 (Heap.Ns1.of_empty hnd) fun h' hn' hs=>?_)));obtain ⟨oD,esD,epD,hoD,hdD,hcD⟩:=hn'.count (Within.cons name v Within.nil);refine Aa (wpAny_lookBehind hoD (by rw [hdD];exact pastItsLine_dict (Av hcD (by rw [Aj,Bj,E4];omega))) ?_)
  exact Ai (h h' _ ((hs.2 x hxs).trans hxf) hn' fun b o hb z=>(hs.2 b (A8 (Al z))).trans (hoth b o hb z))
end
section
variable {prog:Program} {w:World} {A:Around} {E:Value→Shared→Prop} {s:Shared} {K:Frag} {C x dx:Addr} {name:Str} {mA:Str→Option Value}
theorem qhh {expr:Bool} {ox:Obj} {v:Value} {Q:Value→Shared→Prop} (X:K.In s.heap) (c:XK1 K C) (hd:PySem.W.hasDictIn K C=true) (hn:PySem.W.findIn K (.ref C) name=some none) (hx:s.heap.get? x=some ox) (hcl:ox.cls= .ref C) (hdi:ox.dict=some dx) (hnc:PySem.W.notCls ox=true)
  (ns:s.heap.Ns1 dx mA) (hv:mA name=some v) (hh:PySem.W.handedIn v=true) (h:Q v {s with toks:=s.toks+1}):wpAny (model prog w) A (getAttr (.ref x) name expr) Q E s:=by
 obtain ⟨od,ho,hl⟩:=YT ns;have I:PySem.W.InstAt s.heap x ox C (some od):=⟨hx,hcl,hnc,by rw [hdi];exact ho⟩
 have hf:=PySem.W.findObj_own (od:=od) hd hn rfl (by rw [hl,hv])
 obtain ⟨hp,g,d,tk,os⟩:=s;have p:Jc x C hp:=⟨ox,hx,hcl⟩;have L0:=Jc.looks (M:=model prog w) p;have L1:=C7 (M:=model prog w) X c.ga;have L3:=C7 (M:=model prog w) X c.gt;have L4:=PySem.W.looks_find (M:=model prog w) X I hf;have b1:=F.excAttr_ValueError.ga.bind (.ref x);unfold getAttr getAttrBy;refine Aa (wpAny_mkText (B5 (Aa (L0.at (Aa (L1.at ?_))))));dsimp only;have e2:(Value.builtin "BaseException.__getattribute__"==Value.builtin "object.__getattribute__")=false:=∅;rw [e2,C9,if_neg Ag];unfold getAttrByItsOwn hookBefore;rw [if_pos (show onTheHeap (.ref C)=true from rfl)];refine Aa (L3.at (Aa (Do (B5 ?_))));unfold callGetattribute;rw [show (expr&&onTheHeap (Value.builtin "BaseException.__getattribute__"))=false from C9 _,if_neg Ag];unfold boundAndCalled;rw [b1];refine Aa (Ai (Eh (Di F.excAttr_ValueError.ga.plain F.entry_bexc_ga (c.check_ok X p ?_))));unfold Builtin.«object.__getattribute__»;refine Aa (Ai (Aa (Ai (Aa (L0.at (Aa (L4.at ?_)))))));refine Ai ?_;show wpAny _ _ (handedOut v) _ _ _;exact PySem.W.handed_on hh h
end
def vE (e C:Addr) (d:Option Addr):HO:= .ext fun h=>∃ t,h.get? e=some {cls:= .ref C,dict:=d,data:= .fields #[.ref t,.none,.none,.none,.bool false,.none]}
theorem XT {P:Program} {w:World} {H:Hp} {h:Heap} {e C t:Addr} {d:Option Addr} (q:h.get? e=some {cls:= .ref C,dict:=d,data:= .fields #[.ref t,.none,.none,.none,.bool false,.none]}):zd P w H h e (vE e C d):=
 ⟨⟨t,q⟩,⟨_,q⟩,fun h1 h2 ⟨t,q⟩ k=>⟨t,k _ q⟩⟩
theorem yG {P:Program} {w:World} {H:Hp} {h:Heap} {e C:Addr} {d:Option Addr} (I:HOk P w H h) (q:H e=some (vE e C d)):∃ t,h.get? e=some {cls:= .ref C,dict:=d,data:= .fields #[.ref t,.none,.none,.none,.bool false,.none]}:=
 (show zd P w H h e (vE e C d) from I e _ q).1
theorem Inv.forget {X:Cx} {pins:List (Addr×Obj)} {σ:St} {H H':Hp} {s:Shared} {e:Addr} (I:Inv X pins σ H s) (h1:∃ φ,H e=some (.ext φ)) (h2:H' e=none) (h3:∀ b,b≠e→H' b=H b) (h0:X.s₀.heap.get? e=none):Inv X pins σ H' s:=by
 obtain ⟨φ,h1⟩:=h1;have non:∀ b,H b=none→H' b=none:=fun b z=>by
  by_cases hb:b=e
  ·rw [hb];exact h2
  ·rw [h3 b hb];exact z
 have kept:∀ b u,H b=some u→(∀ φ,u≠ .ext φ)→H' b=some u:=fun b u z n=>by
  rw [h3 b fun y=>by rw [y,h1] at z;exact n φ (Be z).symm];exact z
 refine ⟨I.ok,I.os,I.bare,⟨I.base.keep,I.base.slot,fun b o z n hx=>non b (I.base.free b o z n hx),I.base.there,fun b xs z=>kept b _ (I.base.tups b xs z) (fun _ y=>by cases y),fun b o u z=>kept b _ (I.base.frzs b o u z) (fun _ y=>by cases y),fun b ps z=>?_⟩,I.loc,I.cell,non _ I.free,fun x c z=>non _ (I.freeC x c z),fun p hp=>?_,fun b u z=>?_,I.len⟩
 ·obtain ⟨m,z⟩:=I.base.tbls b ps z;exact ⟨m,kept b _ z fun _ y=>by cases y⟩
 ·obtain ⟨a,b,c⟩:=I.pin p hp;exact ⟨a,non _ b,c⟩
 ·have nb:b≠e:=fun y=>by rw [y,h2] at z;cases z
  rw [h3 b nb] at z;exact (I.hok b u z).stay (fun c v _ q=>q) (fun c q=>kept c _ q fun _ y=>by cases y) fun c xs q=>kept c _ q fun _ y=>(by cases y)
def yU (K:Frag) (C fI:Addr):Prop:=∀ h:Heap,K.In h→∃ bm N nm q bs hdct sn sub ab col dd k0 k1 k2 k3 k5 mN oI,
 h.get? C=some (excClassObj nm q C N bs bm hdct sn sub ab col dd k0 k1 k2 k3 k5 "ValueError.__new__")∧h.Ns N mN∧mN "__init__"=some (.ref fI)∧OwnTail h bmVE bm∧h.get? fI=some oI∧oI.cls= .type "function"
def XS (K:Frag) (C fI:Addr):Bool:=match K.lookup C with
 | some ⟨.type "type",_,.cls cd,sl⟩=>(match cd.mro,sl.toList with
  | .ref C'::bm,[_,_,_,_,some (.builtin n),_]=>C'==C&&(n=="ValueError.__new__"&&(!cd.hasDel&&(PySem.W.tailIn K bmVE bm&&(PySem.W.nsOkIn K cd.ns&&PySem.W.nsIn K cd.ns "__init__"==some (some (.ref fI))))))
  | _,_=>false)
 | _=>false
theorem qkz {K:Frag} {h:Heap} {N:Addr} {m:Str→Option Value} {n:Str} {v:Value} (X:K.In h) (G:h.Ns N m) (e:PySem.W.nsIn K N n=some (some v)):m n=some v:=by
 obtain ⟨o,es,ep,ho,hd,_,hf⟩:=G;unfold PySem.W.nsIn at e;split at e
 ·rename_i c d es' n' sl q;have z:=X _ _ q;rw [ho] at z;cases z;cases hd;split at e
  ·rename_i en he;rw [← hf];unfold nsFind findBy;rw [← Array.find?_toList,he];cases e;rfl
  ·split at e <;> cases e
 ·cases e
theorem qdi {K:Frag} {C fI:Addr} {oI:Obj} (q:XS K C fI=true) (hf:K.lookup fI=some oI) (hc:oI.cls= .type "function"):yU K C fI:=by
 intro h X;unfold XS at q;split at q
 case h_2=>cases q
 rename_i dd cd sl ho;split at q
 case h_2=>cases q
 rename_i C' bm k0 k1 k2 k3 n k5 hm hs;simp only [Ae,Ax,D4] at q;obtain ⟨e1,e2,hdel,ht,hok,hni⟩:=q;subst e1 e2;obtain ⟨nm,bs,mro,ns,qn,hd,sn,sub,ab,col,del⟩:=cd;dsimp only at hm hdel hok hni;subst hm hdel;have e3:sl= #[k0,k1,k2,k3,some (.builtin "ValueError.__new__"),k5]:=Array.ext' (by simpa using hs)
 subst e3;have N:=Heap.Ns.of_isNs (PySem.W.isNs_of_in X hok);exact ⟨bm,ns,nm,qn,bs,hd,sn,sub,ab,col,dd,k0,k1,k2,k3,k5,_,oI,X _ _ ho,N,qkz X N hni,PySem.W.tail_of_in X ht,X _ _ hf,hc⟩
structure BIni (K:Frag) (CL:Addr):Prop where
 sg:PySem.W.specialIn K (.ref CL) "__getattribute__"=some (some (.builtin "type.__getattribute__"))
 rd:PySem.W.readsIn K CL (.type "type")=true
 fc:PySem.W.findCls K (.ref CL) (.type "type") "__init__"=some (.val (.builtin "ValueError.__init__"))
section
variable {X:Cx} {CL C fI:Addr} {o e value:Expr} {es:List Expr} {f:Str} {t:TA} {ta tv te:TE} {apos pos pos' p1 p2 p3:Pos} {pl:Sem Bool}
def QB (C:Addr) (t:TA):TE:=fun σ H Q=>t σ H fun vs H1=>∃ a y,vs=[.ref a,.str y]∧H1 a=some (vE a C none)∧Q .non H1
theorem qeo (ho:PE X o (tC (.ref CL))) (B:BIni X.K CL) (O:yU X.K C fI) (ha:PA X (e::es) t) (hst:starEach (e::es) X.env=(false,eval e X.env)::starEach es X.env:=by rfl) (hpl:(backTo pos (starEach es X.env)).any (·.1)=false:=by rfl)
  (ht:eval (.Call (.Attribute o "__init__" apos) (e::es) [] pos) X.env=(do let ov ← eval o X.env;standAt apos.atName;let (f,first) ← holding [ov] (getMethod ov "__init__" pl);callWith pos f first (backTo pos (starEach (e::es) X.env)) (backToKw pos (keywordEach [] X.env))):=by rfl):
  PE X (.Call (.Attribute o "__init__" apos) (e::es) [] pos) (QB C t):=by
 intro pins s σ H Q I h;refine PySem.W.methodCall_KW (pl:=pl) (thn (ho pins s σ H (fun x H1=>x= .ref CL∧QB C t σ H1 Q) I ⟨rfl,h⟩) fun u s1 ⟨x,H1,I1,rx,ex,q⟩=>?_) ht;subst ex;obtain rfl:u=Value.ref CL:=rx;refine PySem.W.method_cls I1.kIn B.sg (PySem.W.cls_value I1.kIn B.rd B.fc rfl ?_);have I2:=I1.tok (s1.toks+1);have hA:=ha pos pins _ σ H1 _ I2 q;rw [hst] at hA ⊢;refine Calls.callWith_builtin (by show (false||(backTo pos (starEach es X.env)).any (·.1))=false;rw [hpl] <;> rfl) (Eo ?_)
 refine thn hA fun us s2 ⟨vs,H2,I3,r,a,y,ev,ha',q2⟩=>?_;subst ev;obtain ⟨u1,u2,rfl,ru,rv⟩:=qae r;cases (show u1=Value.ref a from ru);obtain ⟨t0,he⟩:=yG I3.hok ha';obtain ⟨bm,N,nm,qn,bs,hdct,sn,sub,ab,col,dd,k0,k1,k2,k3,k5,mN,oI,hC,hN,hi,T,hfI,hfc⟩:=O X.base I3.mod.kin;obtain ⟨hp,g,d,tk,os⟩:=s2;refine qdb F.excBase_ValueError (T.keeps I3.bk) (I3.bk _ _ hC) he (by show 1≤sizeLine;decide) fun h' k1 k2=>?_
 obtain ⟨t1,k2⟩:=k2;have I4:=I3.write (x:=a) (e:=a) (o:=vE a C none) (h':=h') (t':=tk) (by rw [ha'];exact True.intro) (.inl rfl) k1 ⟨_,k2⟩ (XT k2)
 have eH:upd H2 a (vE a C none)=H2:=by
  funext b;unfold upd;split
  ·rename_i z;rw [z];exact ha'.symm
  ·rfl
 rw [eH] at I4;exact ⟨.non,H2,I4,rfl,q2⟩
def qhu (C:Addr) (ta tv:TE) (f:Str):TS:=fun D σ H=>tv σ H fun y H1=>ta σ H1 fun x H2=>∃ a,x= .ref a∧H2 a=some (vE a C none)∧∀ dx,H2 dx=none→dx≠a→D.nx σ (upd (upd H2 dx (.xd [(f,y)])) a (vE a C (some dx)))
theorem qgn (S:XSet X.K C f) (ha:PE X o ta) (hv:PE X value tv) (hs:swapsWith value (some (.Attribute o f pos')) pos.line X.env=pure false:=by rfl):PS X (.Assign [.Attribute o f pos'] value pos) (qhu C ta tv f):=by
 intro pins s σ H D I h;refine plainObj_wpAny_Assign_Attribute (thn (hv pins s σ H _ I h) fun u s1 ⟨y,H1,I1,ry,q⟩=>thn (ha pins s1 σ H1 _ I1 q) fun ov s2 ⟨x,H2,I2,rx,a,ex,ea,q2⟩=>?_) hs;subst ex;obtain rfl:ov=Value.ref a:=rx;obtain ⟨t0,he⟩:=yG I2.hok ea;refine qhf I2.kIn S he rfl rfl rfl fun h' tk' k1 k2 k3=>?_;have hf:H2 s2.heap.objs.size=none:=I2.hok.fresh (Ah _);have na:s2.heap.objs.size≠a:=Cv (Al he);refine ⟨σ,_,?_,q2 s2.heap.objs.size hf na⟩;refine I2.un ?_ ?_
 ·have u1:Un X.fs [] H2 (upd H2 a (vE a C (some s2.heap.objs.size))) s2.heap h':=Un.write (x:=a) (e:=a) (by rw [ea];exact True.intro) (.inl rfl) k3 ⟨_,k1⟩
  refine ⟨u1.keep,u1.slot,fun b o z n hx=>?_,u1.there,fun b xs z=>?_,fun b o u z=>?_,fun b ps z=>?_⟩
  ·have nb:b≠a:=fun y=>by rw [y,ea] at n;cases n
   rw [qm nb,qm (A8 (Al z))];exact n
  ·rw [qm (We z ea (by intro y;cases y)),qm (qx z hf)];exact z
  ·rw [qm (We z ea (by intro y;cases y)),qm (qx z hf)];exact z
  ·exact ⟨#[],by rw [qm (We z ea (by intro y;cases y)),qm (qx z hf),z];simp⟩
 ·intro b u z
  by_cases hb:b=a
  ·subst hb;rw [upd_same] at z;cases z;exact XT k1
  ·rw [qm hb] at z
   by_cases hb2:b=s2.heap.objs.size
   ·subst hb2;rw [upd_same] at z;cases z;refine ⟨_,k2,fun g=>?_⟩;rw [Bx,List.lookup_nil]
    by_cases hg:g=f
    ·subst hg;rw [if_pos rfl];simp only [beq_self_eq_true];exact ry
    ·rw [if_neg hg,show (g==f)=false from by simpa using hg]
     exact True.intro
   ·rw [qm hb2] at z;refine (I2.hok b u z).stay (fun c v hc r=>k3 c v ?_ r) (fun c r=>?_) fun c xs r=>?_
    ·rcases hc with hc | hc
     ·rw [hc];exact hb
     ·exact fun y=>by rw [y,ea] at hc;cases hc
    ·rw [qm (We r ea (by intro y;cases y)),qm (qx r hf)];exact r
    ·rw [qm (We r ea (by intro y;cases y)),qm (qx r hf)];exact r
def qka (a b:Str) (te:TE):TE:=fun σ H Q=>te σ H fun x H1=>∃ y,x= .str y∧y.length≤1000∧Q (.str (Str.empty++a++y++b)) H1
theorem qix {a b:Str} {j1 j2:Nat} (he:PE X e te) (h1:a.length≤1000:=by decide+kernel) (h2:b.length≤1000:=by decide+kernel):PE X (.JoinedStr [.Constant (.str a) j1 p1,.FormattedValue e (-1) none p2,.Constant (.str b) j2 p3] pos) (qka a b te):=by
 intro pins s σ H Q I h;refine JoinedStr_many (joinParts_cons (Calls.Constant_str ?_));have z1:(Str.empty++a).length≤1000:=by rw [strLen_append];have:Str.empty.length=0:=rfl;omega
 have big:(5000:Nat)≤sizeLine:=O0;refine ⟨⋯,joinParts_cons (FormattedValue_plain (thn (he pins _ σ H _ (I.tok _) h) fun u s1 ⟨x,H1,I1,rx,y,ex,hy,q⟩=>?_))⟩;subst ex;obtain ⟨t,rfl⟩:=rx;have z2:(Str.empty++a++y).length≤2000:=by rw [strLen_append];omega
 refine formatField_str (fun t' tk=>⟨⋯,joinParts_cons (Calls.Constant_str ⟨?_,joinParts_nil ⟨.str _,H1,I1.tok _,⟨_,rfl⟩,q⟩ ?_⟩)⟩) ⋯
 ·rw [strLen_append];omega
 ·rw [strLen_append];omega
structure XGet (K:Frag) (C:Addr) (f:Str):Prop where
 k:XK1 K C
 hd:PySem.W.hasDictIn K C=true
 nm:PySem.W.findIn K (.ref C) f=some none
def qj6 (C:Addr) (ta:TE) (f:Str):TE:=fun σ H Q=>ta σ H fun x H1=>∃ a dx fs v,x= .ref a∧H1 a=some (yH a C (some dx))∧H1 dx=some (.xd fs)∧fs.lookup f=some v∧Q v H1
theorem qgs {K:Frag} (hK:X.K=K) (G:XGet K C f) (he:PE X e ta) (hb:attributeBase e f X.env (eval e X.env)=eval e X.env):PE X (.Attribute e f pos) (qj6 C ta f):=by
 subst hK;intro pins s σ H Q I h;refine qbj hb (thn (he pins s σ H _ I h) fun u s1 ⟨x,H1,I1,rx,a,dx,fs,v,ex,ea,ed,l,q⟩=>?_);subst ex;obtain rfl:u=Value.ref a:=rx;obtain ⟨⟨o,ho,hcl⟩,hd,⟨o',ho',hnc⟩⟩:=(show zd X.prog X.w H1 s1.heap a (yH a C (some dx)) from I1.hok a _ ea).1;obtain ⟨o2,ho2,hdi⟩:=hd dx rfl;rw [ho] at ho' ho2;cases ho';cases ho2;obtain ⟨mA,ns,rel⟩:=(show zd X.prog X.w H1 s1.heap dx (.xd fs) from I1.hok dx _ ed);obtain ⟨u',hu,ru⟩:=vK.some_of (v:=v) (o:=mA f) (by rw [← l];exact rel f)
 exact qhh I1.kIn G.k G.hd G.nm ho hcl hdi hnc ns hu (YZ ru) ⟨v,H1,I1.tok _,ru,q⟩
end
def qd7 (C:Addr) (fld:Str):Sp:=fun vs H Q _=>∃ (a:Addr) (y:Str),vs=[.ref a,.str y]∧y.length≤1000∧H a=some (vE a C none)∧∀ dx,H dx=none→dx≠a→Q .non (upd (upd H dx (.xd [(fld,.str y)])) a (vE a C (some dx)))
def Xn (t:TA) (fld:Str) (C:Addr) (E:XK):TS:=fun _ σ H=>t σ H fun vs H1=>∃ y:Str,vs=[.str y]∧y.length≤1000∧∀ dx,H1 dx=none→E (.ref C) (some dx) (upd H1 dx (.xd [(fld,.str y)]))
section
variable {P:Program} {w:World} {K:Frag} {mg:Str→Option Value} {base:Heap} {N:List Str} {qual:Str} {scope:Scope} {f:Addr} {cd:Value} {A:Around} {outer:List Env} {s₀:Shared} {H₀:Hp} {E:XK}
theorem YM {x fld:Str} {C fI:Addr} {fdI:FuncData} {ps:List Str} {k:Nat} {e:Expr} {t:TA} {np cpos pos:Pos} (O:yU K C fI) (FI:FnOk P w K mg base CX0 k fI fdI ps (qd7 C fld)) (hb:Jd K fdI ps []) (hr:Room (k+1) (A.deeper (envOfC qual scope s₀.heap.objs.size f cd))) (hm:mg x=some (.ref C))
  (ha:PA (j4 (CX2 P w) P w K mg base N qual scope f cd A outer s₀ H₀ E) [e] t) (hg:Gl (j4 (CX2 P w) P w K mg base N qual scope f cd A outer s₀ H₀ E) x:=by rfl) (hdb:(x==("__debug__":Str))=false:=by decide)
  (he:starEach [e] (j4 (CX2 P w) P w K mg base N qual scope f cd A outer s₀ H₀ E).env=[(false,eval e (j4 (CX2 P w) P w K mg base N qual scope f cd A outer s₀ H₀ E).env)]:=by rfl):
  PS (j4 (CX2 P w) P w K mg base N qual scope f cd A outer s₀ H₀ E) (.Raise (some (.Call (.Name x np) [e] [] cpos)) none pos) (Xn t fld C E):=by
 intro pins s σ H D I h;obtain ⟨bm,N0,nm,q,bs,hdct,sn,sub,ab,col,dd,k0,k1,k2,k3,k5,mN,oI,hC,hN,hi,T,hfI,hfc⟩:=O base I.mod.kin;refine qb8 (C:=C) (nm:=nm) (q:=q) (N:=N0) (bs:=bs) (bm:=bm) (hdct:=hdct) (sn:=sn) (sub:=sub) (ab:=ab) (col:=col) (dd:=dd) (k0:=k0) (k1:=k1) (k2:=k2) (k3:=k3) (k5:=k5) F.excBase_ValueError (mN:=mN) (T.hasType F.excBase_ValueError.hasBase) (I.ok.hd rfl) (by rw [he];rfl) hi hfc (JD I hg hm ⟨rfl,?_⟩ hdb)
 have h2:=ha cpos pins s σ H _ I h;rw [he] at h2 ⊢;refine Eo (thn h2 fun us s2 ⟨ws,H2,I2,r,y,ew,hy,q2⟩=>?_);subst ew;obtain ⟨u,rfl,ru⟩:=Ja r;refine ⟨rfl,(by show 1≤sizeLine;decide),I2.bk _ _ hC,hN.keeps I2.bk,T.keeps I2.bk,I2.bk _ _ hfI,fun h' a m hsz=>?_⟩
 obtain ⟨t0,ht,_⟩:=m.there;have hn2:H2 a=none:=I2.hok.fresh hsz;have I3:Inv (j4 (CX2 P w) P w K mg base N qual scope f cd A outer s₀ H₀ E) pins σ (upd H2 a (vE a C none)) {s2 with heap:=h'}:=I2.laid (t':=s2.toks) m.keeps hsz (XT ht)
 have hs0:s₀.heap.get? a=none:=C8 (Av I2.sz hsz);refine Eh (El (FI.run _ _ {s2 with heap:=h'} _ ⟨[.ref a,u],[]⟩ [.ref a,u] [.ref a,.str y] (fun v H'=>v= .non∧∃ dx,H2 dx=none∧dx≠a∧H'=upd (upd (upd H2 a (vE a C none)) dx (.xd [(fld,.str y)])) a (vE a C (some dx))) E0 (hr.make C [u] []) (I3.env0.make C [u] []) (by simpa using hb _ [.ref a,u] I3.kIn (by
  have z:=FI.len [.ref a,.str y] (upd H2 a (vE a C none)) (fun _ _=>True) E0 ⟨a,y,rfl,hy,upd_same,fun _ _ _=>trivial⟩;exact z)) (.cons rfl (.cons ru .nil)) ⟨a,y,rfl,hy,upd_same,fun dx hdx nd=>⟨rfl,dx,by rw [qm nd] at hdx;exact hdx,nd,rfl⟩⟩) fun r s' hq=>?_)
 cases r with
 | error ev=>exact False.elim hq
 | ok fl=>
  cases fl with
  | next=>exact False.elim hq
  | brk=>exact False.elim hq
  | cont=>exact False.elim hq
  | ret u'=>
   obtain ⟨v,H',I4,rv,rfl,dx,hdx,nd,rfl⟩:=I3.after hq;cases (show u'=Value.none from rv);obtain ⟨t1,he'⟩:=yG I4.hok (upd_same (H:=upd (upd H2 a (vE a C none)) dx (.xd [(fld,.str y)])) (a:=a) (o:=vE a C (some dx)));have I5:Inv (j4 (CX2 P w) P w K mg base N qual scope f cd A outer s₀ H₀ E) pins σ (upd H2 dx (.xd [(fld,.str y)])) s':=I4.forget (e:=a) ⟨_,upd_same⟩ (by rw [qm (Ne.symm nd)];exact hn2) (fun b hb=>by
    rw [qm hb]
    by_cases hbd:b=dx
    ·rw [hbd,upd_same,upd_same]
    ·rw [qm hbd,qm hbd,qm hb]) hs0
   exact ⟨rfl,I4.bk _ _ hC,⟨t1,some dx,he'⟩,qge I5 he' (by rw [qm (Ne.symm nd)];exact hn2) hs0 (q2 dx hdx)⟩
end
theorem Vk:Slot "reversed" "__init__" "object.__init__":=
 .of (owner:="object") (n:="__init__") (by rw [Dl,Cn];kernel_rfl) ∅ ∅ ∅
  (by first | exact .inl ∅ | exact .inr ∅) (by rw [D8];kernel_rfl)
theorem Ww:TypeCalled "reversed" "reversed.__new__" "object.__init__":=
 ⟨∅,∅,⟨_,_,F.mro_reversed⟩,F.made_reversed,∅,F.sub_reversed_self,Vk⟩
theorem V7:typeLookup (.type "tuple") "__reversed__"=pure none:=by rw [Dl,Cn];kernel_rfl
theorem jm:Slot "reversed" "__next__" "reversed.__next__":=
 .of (owner:="reversed") (n:="__next__") (by rw [Dl,Cn];kernel_rfl) ∅ ∅ ∅
  (by first | exact .inl ∅ | exact .inr ∅) (by rw [D8];kernel_rfl)
theorem vF:entryFor table "reversed.__next__"=some Builtin.«reversed.__next__» :=entryFor_of_tree (by kernel_rfl)
theorem Vf (a:Value):argsOk "reversed.__next__" ⟨[a],[]⟩:=by unfold argsOk;kernel_rfl
theorem Va:Slot "reversed" "__iter__" "reversed.__iter__":=
 .of (owner:="reversed") (n:="__iter__") (by rw [Dl,Cn];kernel_rfl) ∅ ∅ ∅
  (by first | exact .inl ∅ | exact .inr ∅) (by rw [D8];kernel_rfl)
theorem Yl (a:Value):argsOk "reversed.__iter__" ⟨[a],[]⟩:=by unfold argsOk;kernel_rfl
theorem yJ:entryFor table "reversed.__iter__"=some Builtin.«dict_keyiterator.__iter__» :=
 entryFor_alias (id':="dict_keyiterator.__iter__") (by kernel_rfl) (by first | rfl | decide+kernel | (unfold String.splitOn;simp+decide [String.splitOnAux])) ∅ (by kernel_rfl)
theorem qb5:typeLookup (.type "reversed") "__len__"=pure none:=by rw [Dl,Cn];kernel_rfl
theorem JG:Slot "reversed" "__length_hint__" "reversed.__length_hint__":=
 .of (owner:="reversed") (n:="__length_hint__") (by rw [Dl,Cn];kernel_rfl) ∅ ∅ ∅
  (by first | exact .inl ∅ | exact .inr ∅) (by rw [D8];kernel_rfl)
theorem yK:entryFor table "reversed.__length_hint__"=some Builtin.«reversed.__length_hint__» :=entryFor_of_tree (by kernel_rfl)
theorem Ym (a:Value):argsOk "reversed.__length_hint__" ⟨[a],[]⟩:=by unfold argsOk;kernel_rfl
theorem qcj:typeLookup (.type "list_reverseiterator") "__len__"=pure none:=by rw [Dl,Cn];kernel_rfl
theorem qex:typeLookup (.type "list_reverseiterator") "__length_hint__"=pure (some (.builtin "list_reverseiterator.__length_hint__")):=by rw [Dl,Cn];kernel_rfl
def qb6 (l:Addr) (i:Int):Obj:={cls:= .type "reversed",data:= .fields #[.ref l,rawInt i]}
def jP (h:Heap) (a l:Addr) (i:Int):Prop:=∃ o,h.get? a=some o∧o.cls= .type "reversed"∧o.data= .fields #[.ref l,rawInt i]
theorem jP.typeIs {s:Shared} {a l:Addr} {i:Int} (x:jP s.heap a l i):s.TypeIs (.ref a) "reversed":=let ⟨o,ho,hc,_⟩:=x;⟨o,ho,hc⟩
theorem jP.at {h h':Heap} {a l:Addr} {i:Int} (x:jP h a l i) (e:∀ o,h.get? a=some o→h'.get? a=some o):jP h' a l i:=let ⟨o,ho,r⟩:=x;⟨o,e _ ho,r⟩
section
variable {prog:Program} {w:World} {A:Around} {E:Value→Shared→Prop} {s:Shared}
theorem qgc (l:Addr) (qr:Array Value):MeetsIn prog w (Builtin.«reversed.__new__» ⟨[.type "reversed",.ref l],[]⟩) (fun _ R s=>IsTup s.heap l qr∧((qr.size:Nat):Int)<2 ^ 63∧∀ tk,R (.ok (.ret (.ref s.heap.objs.size))) {s with heap:=s.heap.push (qb6 l ((qr.size:Int) - 1)),toks:=tk}):=
 .of_wp fun A R s ⟨ht,hz,h⟩=>by
  unfold Builtin.«reversed.__new__»;refine Aa (C6 (newClass_reversed _) ?_)
  try dsimp only
  refine Aa (C6 (a:=()) (by first | rfl | kernel_rfl) ?_)
  refine Aa (C6 (a:=()) (by first | rfl | kernel_rfl) ?_)
  try dsimp only
  refine Aa (Dk ht.typeIs V7 ?_);dsimp only;refine Aa ?_;show wpAny _ _ (isInstance (.ref l) (.type "dict")>>=_) _ _ _;refine Aa (Es (T:="tuple") (b:=false) ht.typeIs (by rw [D8];kernel_rfl) ?_)
  show wpAny _ _ (specialOf (.ref l) "__getitem__">>=_) _ _ _;refine Aa (Dk ht.typeIs slot_tuple_getitem.lookup ?_);refine C6 (a:=true) (by kernel_rfl) ?_
  rw [if_neg O0];refine Aa (len_tuple ht hz ?_);refine Aa (C6 (a:=some ((qr.size:Nat):Int)) rfl ?_);dsimp only;refine Aa ?_;unfold Builtin.SmallTypes.newRecord;exact Cj (Ai ⟨_,rfl,h _⟩)
theorem yR {l:Addr} {qr:Array Value} {Q:Value→Shared→Prop} (ht:IsTup s.heap l qr) (hz:((qr.size:Nat):Int)<2 ^ 63) (h:∀ tk,Q (.ref s.heap.objs.size) {s with heap:=s.heap.push (qb6 l ((qr.size:Int) - 1)),toks:=tk}):
  wpAny (model prog w) A (call (.type "reversed") [.ref l]) Q E s:=
 callType_newIn Ww O0 (F.typeCall_reversed_1 _) (F.newCall_reversed_1 _) (fun obj=>F.args_object_init_2 obj _) F.entry_reversed_new (qgc l qr) ⟨ht,hz,fun tk=>⟨⟨_,Aw _ rfl,rfl⟩,h tk⟩⟩
theorem Yi {it l:Addr} {i:Nat} {qr:Array Value} {x:Value} {Q:Option Value→Shared→Prop} (hit:jP s.heap it l (i:Int)) (hl:IsTup s.heap l qr) (hx:qr[i]?=some x) (hz:((qr.size:Nat):Int)<2 ^ 63)
  (hQ:∀ h' tk,jP h' it l ((i:Int) - 1)→Heap.SameBut it s.heap h'→Q (some x) {s with heap:=h',toks:=tk}):wpAny (model prog w) A (pyNext (.ref it)) Q E s:=by
 obtain ⟨o,ho,hc,hd⟩:=id hit;have hi:i<qr.size:=(Dd.mp hx).1;unfold pyNext;refine Aa (Do (Cq (name:=Str.ofString "__next__") hit.typeIs jm (Ck jm hit.typeIs vF ?_ (Vf _))));unfold Builtin.«reversed.__next__»;refine Aa (C6 (a:=(Value.ref it,[])) rfl ?_)
 try dsimp only
 refine Aa (Bs ho hd (x:= .ref l) rfl ?_);refine Aa (Bs ho hd (x:=rawInt (i:Int)) rfl ?_);show wpAny _ _ (if (i:Int)<0 then _ else _) _ _ s
 rw [if_neg ⋯];refine Aa (Dk hl.typeIs slot_tuple_getitem.lookup ?_);rw [if_neg O0];refine Aa (wpAny_mkInt (Aa (Do (getItem_tuple (s:={s with toks:=s.toks+1}) hl ⋯ ⋯ (j:=i) ?_ hx ?_))))
 ·unfold seqIndex?;split
  ·omega
  ·dsimp only;rw [if_pos (by rw [Ae];exact ⟨Ak ⋯,Ak ⋯⟩)]
   simp
 ·dsimp only;refine Aa (Bs (s:={s with toks:=s.toks+1}) ho hd (x:=rawInt (i:Int)) rfl ?_)
  show wpAny _ _ (setField (.ref it) 1 (rawInt ((i:Int) - 1))>>=_) _ _ _;refine Aa (Dr (s:={s with toks:=s.toks+1}) ho hd (by simp) ?_)
  refine Ai ⟨x,rfl,Ai (hQ _ _ ?_ (Heap.SameBut.update ..))⟩;exact ⟨_,Cb _ ho (En (C3 hd _)),(Obj.cls_mapFields ..).trans hc,by rw [C3 hd];simp⟩
theorem XD {it l:Addr} {Q:Option Value→Shared→Prop} (hh:A.handled=none) (hit:jP s.heap it l (-1)) (hQ:∀ h',Heap.ExtBut it s.heap h'→Q none {s with heap:=h'}):wpAny (model prog w) A (pyNext (.ref it)) Q E s:=by
 obtain ⟨o,ho,hc,hd⟩:=id hit;unfold pyNext;refine Aa (Do (Cq (name:=Str.ofString "__next__") hit.typeIs jm (Ck jm hit.typeIs vF ?_ (Vf _))));unfold Builtin.«reversed.__next__»;refine Aa (C6 (a:=(Value.ref it,[])) rfl ?_)
 try dsimp only
 refine Aa (Bs ho hd (x:= .ref l) rfl ?_);refine Aa (Bs ho hd (x:=rawInt (-1)) rfl ?_);show wpAny _ _ (if (-1:Int)<0 then _ else _) _ _ s
 rw [if_pos O0];refine Aa (Fa ?_);refine Aa ?_;show wpAny _ _ (setField (.ref it) 1 (rawInt (-1))>>=_) _ _ _;refine Aa (Dr ho hd (by simp) ?_)
 have ho2:=Cb (Obj.mapFields (·.setIfInBounds 1 (rawInt (-1)))) ho (En (C3 hd _));refine Dr ho2 (C3 hd _) (by simp) ?_
 have ho3:∀ b o,b≠it→s.heap.get? b=some o→((s.heap.update it (Obj.mapFields (·.setIfInBounds 1 (rawInt (-1))))).update it (Obj.mapFields (·.setIfInBounds 0 Value.none))).get? b=some o:=fun b o hb z=>
  (Bn _ _ (Ne.symm hb)).trans ((Bn _ _ (Ne.symm hb)).trans z)
 generalize (s.heap.update it (Obj.mapFields (·.setIfInBounds 1 (rawInt (-1))))).update it (Obj.mapFields (·.setIfInBounds 0 Value.none))=h3 at ho3;refine Aa ?_;unfold Builtin.SmallTypes.stopIteration
 first
 | show wpAny _ _ (newExc (.type "StopIteration") []>>=_) _ _ _
 | (refine Aa ?_;show wpAny _ _ (newExc (.type "StopIteration") []>>=_) _ _ _)
 refine Aa ?_;simp only [newExc,newTuple];refine Aa (Cj ?_ (by size_fits))
 refine Aa (m:=firstArgMember _ _) (C6 (a:=Value.none) (by first | rfl | (simp only [firstArgMember];rfl)) ?_)
 refine Cj ?_ (by size_fits)
 simp only [raiseNew];refine Aa (wpAny_handled ?_);rw [show A.in1.handled=none from hh];refine Aa (Ai (wpAny_throw ?_));refine Aa (Es (T:="StopIteration") (b:=true) ⟨_,Aw _ rfl,rfl⟩ isSubtype_stop ?_);exact Ai (hQ _ fun b o hb z=>Af _ (Af _ (ho3 b o hb z)))
theorem ZV {it l:Addr} {i:Int} {Q:Value→Shared→Prop} (hit:jP s.heap it l i) (h:Q (.ref it) s):wpAny (model prog w) A (pyIter (.ref it)) Q E s:=by
 refine wpAny_pyIter_slot hit.typeIs Va (Ck Va hit.typeIs yJ ?_ (Yl _));show wpAny _ _ (ret (.ref it)) _ _ s;exact Ai ⟨_,rfl,"reversed",_,hit.typeIs,jm.lookup,h⟩
theorem qe5 {r l:Addr} {i:Int} {Q:Bool→Shared→Prop} (hit:s.heap.IsRevIter r l i) (h:Q false s):wpAny (model prog w) A (Builtin.List.listLengthHint (.ref r)) Q E s:=by
 unfold Builtin.List.listLengthHint;refine Aa (Dk hit.typeIs qcj ?_);show wpAny _ _ (specialOf (.ref r) "__length_hint__">>=_) _ _ _;refine Aa (Dk hit.typeIs qex ?_);generalize hid:("list_reverseiterator.__length_hint__":String)=id0
 wp_delta
 rw [show splitId id0=some ("list_reverseiterator","__length_hint__") from by subst hid;decide+kernel]
 subst hid;refine Aa (Es (T:="list_reverseiterator") (b:=true) hit.typeIs (by rw [D8];kernel_rfl) ?_)
 refine Ee (fun hab=>absurd hab O0) (fun _=>?_);refine Ee (fun _=>?_) (fun hab=>absurd ∅ hab);refine Ee (fun hab=>absurd hab ∅) (fun _=>?_);exact Ai h
theorem qe4 {r l:Addr} {n:Nat} {qr:Array Value} {Q:Bool→Shared→Prop} (hit:jP s.heap r l ((n:Int) - 1)) (hl:IsTup s.heap l qr) (hn:qr.size=n) (hz:n≤2 ^ 20) (h:∀ b tk,Q b {s with toks:=tk}):wpAny (model prog w) A (Builtin.List.listLengthHint (.ref r)) Q E s:=by
 obtain ⟨o,ho,hc,hd⟩:=id hit;unfold Builtin.List.listLengthHint;refine Aa (Dk hit.typeIs qb5 ?_);show wpAny _ _ (specialOf (.ref r) "__length_hint__">>=_) _ _ _;refine Aa (Dk hit.typeIs JG.lookup ?_);generalize hid:("reversed.__length_hint__":String)=id0
 wp_delta
 rw [show splitId id0=some ("reversed","__length_hint__") from by subst hid;decide+kernel]
 subst hid;refine Aa (Es (T:="reversed") (b:=true) hit.typeIs (by rw [D8];kernel_rfl) ?_)
 refine Ee (fun hab=>absurd hab O0) (fun _=>?_);refine Ee (fun hab=>absurd hab ∅) (fun _=>?_);refine Aa (Fa (Aa (C6 (JG.bind _) ?_)));dsimp only;refine Aa (Do (Ck JG hit.typeIs yK ?_ (Ym _)));unfold Builtin.«reversed.__length_hint__»;refine Aa (C6 (a:=Value.ref r) rfl ?_);refine Aa (Bs ho hd (x:= .ref l) rfl ?_);rw [if_neg (show ¬ ((Value.ref l==Value.none)=true) by simp)]
 refine Aa (len_tuple hl ⋯ ?_);refine Aa (C6 (a:=some ((qr.size:Nat):Int)) rfl ?_);dsimp only;refine Aa (Bs (s:={s with toks:=s.toks+1+1}) ho hd (x:=rawInt ((n:Int) - 1)) rfl ?_)
 show wpAny _ _ (if ((qr.size:Nat):Int)<(n:Int) - 1+1 then _ else _) _ _ _
 rw [if_neg ⋯];refine Aa (wpAny_mkInt (Ai ⟨_,rfl,?_⟩));dsimp only;refine Aa (C6 (a:=some ((n:Int) - 1+1)) rfl ?_);dsimp only;have e1:Builtin.List.listFitsIndex ((n:Int) - 1+1)=true:=by unfold Builtin.List.listFitsIndex;simp;omega
 have e2:Builtin.List.listTooLong ((n:Int) - 1+1).toNat=false:=by simp [Builtin.List.listTooLong,sizeLine];omega
 rw [e1,e2,if_neg O0,if_neg ⋯,if_neg O0];exact Ai (h _ _)
structure OwnSrc (prog:Program) (w:World) (T:String) (r d:Addr) (n:Nat) (P:Nat→Value→Prop) (St:Nat→Heap→Prop):Prop where
 type:∀ s:Shared,St 0 s.heap→s.TypeIs (.ref r) T
 there:∀ h:Heap,St 0 h→r<h.objs.size∧d<h.objs.size
 notList:(Value.type T==Value.type "list")=false
 notTuple:(Value.type T==Value.type "tuple")=false
 hint:∀ (A:Around) (E:Value→Shared→Prop) (s:Shared) (Q:Bool→Shared→Prop),St 0 s.heap→(∀ b tk,Q b {s with toks:=tk})→wpAny (model prog w) A (Builtin.List.listLengthHint (.ref r)) Q E s
 iter:∀ (A:Around) (s:Shared) (E:Value→Shared→Prop) (Q:Value→Shared→Prop),St 0 s.heap→Q (.ref r) s→wpAny (model prog w) A (pyIter (.ref r)) Q E s
 walks:∀ A:Around,A.handled=none→Walks prog w A r [r,d] [r] n P St
variable {T:String} {r d:Addr} {n:Nat} {P:Nat→Value→Prop} {St:Nat→Heap→Prop}
theorem QL {R:Result→Shared→Prop} (K:OwnSrc prog w T r d n P St) (hh:A.handled=none) (hok:St 0 s.heap) (S:Addr) (hSr:S≠r) (hSd:S≠d) (res:Value) (c₀:Nat) (hS:s.heap.get? S=some {cls:= .type "list",data:= .seq #[] c₀})
  (hR:∀ h' tk acc' c',(∀ b o,b≠S→b≠r→s.heap.get? b=some o→h'.get? b=some o)→h'.get? S=some {cls:= .type "list",dict:=none,data:= .seq acc' c',slots:= #[]}→ItemsOf P acc' n→R (.ok (.ret res)) {s with heap:=h',toks:=tk}) (hn:n≤sizeLine):
  wpAny (model prog w) A.in1 (Builtin.List.listExtendWith (.ref S) (.ref r) res)
   (fun fin s'=>match fin with | .done f=>R (.ok f) s' | .again c'=>c'.quiet=true∧codeAny (model prog w) A c' R s') (fun e s'=>R (.error e) s') s:=by
 have W:=K.walks A.in1 hh;have hSf:S∉[r,d]:=by simp only [Ap,Bg,or_false,not_or];exact ⟨hSr,hSd⟩
 have key:∀ (h:Heap) (c₁ tk:Nat),St 0 h→(∀ b o,b≠S→s.heap.get? b=some o→h.get? b=some o)→h.get? S=some {cls:= .type "list",data:= .seq #[] c₁}→
   codeAny (model prog w) A (.builtin "list.extend.loop" ⟨[.ref S,.ref r,res],[]⟩) R {s with heap:=h,toks:=tk}:=by
  intro h c₁ tk hst hk hS₁;refine codeAny_extend_loopS W.toS hn S hSf res n 0 _ #[] c₁ rfl (Bm _) hst hS₁ (ItemsOf.nil _) fun s' acc' c' hm hS' hacc=>?_;rw [Moved.eq_with hm];refine hR s'.heap s'.toks acc' c' (fun b o hb hr e=>hm.heap b o (fun z=>?_) (hk b o hb e)) hS' hacc;rcases Ap.mp z with z | z
  ·exact hb z
  ·exact hr (Az.mp z)
 unfold Builtin.List.listExtendWith;refine Aa (wpAny_typeOf (T:=T) (K.type s hok) ?_);have h1:Builtin.List.listSameRef (.ref S) (.ref r)=false:=by simp [Builtin.List.listSameRef,hSr]
 simp only [h1,K.notList,K.notTuple,Ed,Bool.false_eq_true,if_false];refine Aa (K.iter _ _ _ _ hok ?_);refine Aa (B5 (K.hint _ _ _ _ hok fun b tk=>?_));refine Ee (fun _=>?_) (fun _=>Ai ⟨plainId_quiet PySem.F.plain_extend_loop _,key _ c₀ _ hok (fun _ _ _ e=>e) hS⟩);refine Aa (Fa (Aa ?_));show wpAny _ _ (updateSeq S (·.push .none)>>=fun _=>updateSeq S (·.pop)) _ _ _;refine Aa (wpAny_updateSeq (s:={s with toks:=tk}) hS rfl ?_)
 have hS₂:=Cb (Obj.mapSeq (·.push Value.none)) hS rfl;refine wpAny_updateSeq (hz:=by seq_fits) hS₂ rfl ?_
 have hS₃:=Cb (Obj.mapSeq (·.pop)) hS₂ rfl;refine Ai ⟨plainId_quiet PySem.F.plain_extend_loop _,key _ _ _ (W.frame 0 _ _ hok fun b hb o e=>?_) (fun b o hb e=>?_) hS₃⟩
 ·have hbS:b≠S:=fun z=>hSf (z▸hb);exact (Bn _ _ (Ne.symm hbS)).trans ((Bn _ _ (Ne.symm hbS)).trans e)
 ·exact (Bn _ _ (Ne.symm hb)).trans ((Bn _ _ (Ne.symm hb)).trans e)
theorem ZD {Q:Value→Shared→Prop} (K:OwnSrc prog w T r d n P St) (hh:A.handled=none) (hok:St 0 s.heap) (hn:n≤sizeLine)
  (hQ:∀ h' tk acc' c',(∀ b o,b≠r→s.heap.get? b=some o→h'.get? b=some o)→h'.get? s.heap.objs.size=some {cls:= .type "list",dict:=none,data:= .seq acc' c',slots:= #[]}→ItemsOf P acc' n→Q (.ref s.heap.objs.size) {s with heap:=h',toks:=tk}):
  wpAny (model prog w) A (call (.type "list") [.ref r]) Q E s:=by
 refine callType_codes (Q₁:=fun obj s₁=>obj= .ref s.heap.objs.size∧s₁={s with heap:=s.heap.push {cls:= .type "list",data:= .seq #[]}}) PySem.F.called_list (PySem.F.typeCall_list_1 _) PySem.F.entry_list_init (code_list_new _ ⟨rfl,rfl⟩) fun obj s₁ h₁=>?_
 obtain ⟨rfl,rfl⟩:=h₁;have hS:(s.heap.push {cls:= .type "list",data:= .seq #[]}).get? s.heap.objs.size=some {cls:= .type "list",data:= .seq #[]}:=Aw _ rfl;have hlt:=K.there _ hok;have nr:s.heap.objs.size≠r:=Cv hlt.1;have nd:s.heap.objs.size≠d:=Cv hlt.2;have W:=K.walks A.in1 hh;refine ⟨⟨_,hS,rfl⟩,PySem.F.args_list_init_2 _ _,?_⟩;show wpAny _ _ (do let old ← Builtin.List.listItems (.ref s.heap.objs.size);Builtin.List.listUpdate (.ref s.heap.objs.size) (fun _=> #[]);letGo old.toList.reverse;Builtin.List.listExtendWith (.ref s.heap.objs.size) (.ref r) .none) _ _ _
 refine Aa ?_;unfold Builtin.List.listItems;refine Aa (Df hS rfl (Ai ?_));show wpAny _ _ (updateSeq s.heap.objs.size (fun _=> #[])>>=fun _=>letGo (#[]:Array Value).toList.reverse>>=fun _=>Builtin.List.listExtendWith (.ref s.heap.objs.size) (.ref r) .none) _ _ _;refine Aa (wpAny_updateSeq (s:={s with heap:=s.heap.push {cls:= .type "list",data:= .seq #[]}}) hS rfl ?_)
 have hS₂:=Cb (Obj.mapSeq (fun _=>(#[]:Array Value))) hS rfl;have oth:∀ b o,b≠s.heap.objs.size→s.heap.get? b=some o→((s.heap.push {cls:= .type "list",data:= .seq #[]}).update s.heap.objs.size (Obj.mapSeq (fun _=>(#[]:Array Value)))).get? b=some o:=fun b o hb e=>(Bn _ _ (Ne.symm hb)).trans (Af _ e);refine Aa (wpAny_letGo ?_);refine QL (A:=A.in1) K hh (W.frame 0 _ _ hok fun b hb o e=>oth b o (fun z=>?_) e) _ nr nd .none _ hS₂ (fun h' tk acc' c' hk hS' hacc=>?_) hn
 ·rcases Ap.mp hb with y | y
  ·exact nr (z▸y)
  ·exact nd (z▸Az.mp y)
 ·exact ⟨rfl,hQ h' tk acc' c' (fun b o hb e=>hk b o (A8 (Al e)) hb (oth b o (A8 (Al e)) e)) hS' hacc⟩
end
theorem qbo {prog:Program} {w:World} {A:Around} (hh:A.handled=none) (I l:Addr) (hne:l≠I) (qr:Array Value) (hz:((qr.size:Nat):Int)<2 ^ 63):
  Walks prog w A I [I,l] [I] qr.size (fun i v=>qr[qr.size - 1 - i]?=some v) (fun i h=>i≤qr.size∧jP h I l ((qr.size:Int) - 1 - (i:Int))∧IsTup h l qr) where
 sub:=fun b hb=>by simp at hb;simp [hb]
 frame:=fun _ _ _ x hk=>⟨x.1,x.2.1.at fun o e=>hk I (by simp) o e,let ⟨o,ho,r⟩:=x.2.2;⟨o,hk l (by simp) o ho,r⟩⟩
 item:=fun i s Q E hi x hQ=>by
  have e:(qr.size:Int) - 1 - (i:Int)=((qr.size - 1 - i:Nat):Int):=⋯;have hit:=x.2.1;rw [e] at hit;have hx:qr[qr.size - 1 - i]?=some (qr[qr.size - 1 - i]'⋯):=Array.getElem?_eq_getElem ⋯;refine Yi hit x.2.2 hx hz fun h' tk hit' hs'=>?_;have e2:((qr.size - 1 - i:Nat):Int) - 1=(qr.size:Int) - 1 - ((i+1:Nat):Int):=⋯;rw [e2] at hit';exact hQ _ h' tk hx ⟨hi,hit',let ⟨o,ho,r⟩:=x.2.2;⟨o,(hs'.2 l hne).trans ho,r⟩⟩ fun b o hb eo=>hs'.extBut b o (fun h=>hb (by simp [h])) eo
 done:=fun s Q E x hQ=>by
  have e:(qr.size:Int) - 1 - (qr.size:Int)= -1:=⋯;have hit:=x.2.1;rw [e] at hit;exact XD hh hit fun h' he'=>hQ h' s.toks fun b o hb eo=>he' b o (fun h=>hb (by simp [h])) eo
 self:=fun _ _ _ _ x hQ=>ZV x.2.1 hQ
theorem qf1 {prog:Program} {w:World} {I l:Addr} (hne:l≠I) (qr:Array Value) (hz:qr.size≤2 ^ 20):OwnSrc prog w "reversed" I l qr.size (fun i v=>qr[qr.size - 1 - i]?=some v) (fun i h=>i≤qr.size∧jP h I l ((qr.size:Int) - 1 - (i:Int))∧IsTup h l qr) where
 type:=fun _ x=>x.2.1.typeIs
 there:=fun _ x=>⟨let ⟨_,ho,_⟩:=x.2.1;Al ho,let ⟨_,ho,_⟩:=x.2.2;Al ho⟩
 notList:=O0
 notTuple:=O0
 hint:=fun _ _ _ _ x h=>qe4 (by simpa using x.2.1) x.2.2 rfl hz h
 iter:=fun _ _ _ _ x h=>ZV x.2.1 h
 walks:=fun A hh=>qbo hh I l hne qr ⋯
theorem qf2 {prog:Program} {w:World} {I l:Addr} (hne:l≠I) (qr:Array Value):OwnSrc prog w "list_reverseiterator" I l qr.size (fun i v=>qr[qr.size - 1 - i]?=some v) (fun i h=>i≤qr.size∧h.IsRevIter I l ((qr.size:Int) - 1 - (i:Int))∧h.IsList l qr) where
 type:=fun _ x=>x.2.1.typeIs
 there:=fun _ x=>⟨let ⟨_,ho,_⟩:=x.2.1;Al ho,let ⟨_,ho,_⟩:=x.2.2;Al ho⟩
 notList:=O0
 notTuple:=O0
 hint:=fun _ _ s _ x h=>qe5 x.2.1 (h _ s.toks)
 iter:=fun _ _ _ _ x h=>wpAny_pyIter_revIter x.2.1 h
 walks:=fun A hh=>Walks.listRev hh I l hne qr
def qak (K:Frag) (ta:TA):TE:=fun σ H Q=>ta σ H fun vs H1=>∃ (l:Addr) (ys:List V),vs=[.ref l]∧ys.length≤1000∧(SqL K H1 l ys∨SqT K H1 l ys)∧∀ L,H1 L=none→Q (.ref L) (upd H1 L (.lst ys.reverse))
section
variable {X:Cx} {K:Frag} {a:Expr} {ta:TA} {p1 p2 pos1 pos2:Pos}
theorem qaq {pins:List (Addr×Obj)} {σ:St} {H:Hp} {s:Shared} {Q:VK} {ys:List V} {its:List Value} {ob:Obj} {h':Heap} {tk:Nat} {acc:Array Value} {c':Nat} (I:Inv X pins σ H s) (hz:ys.length≤1000) (rv:qP ys its)
  (k:∀ b o,b≠s.heap.objs.size→(s.heap.push ob).get? b=some o→h'.get? b=some o) (hS:h'.get? (s.heap.objs.size+1)=some {cls:= .type "list",dict:=none,data:= .seq acc c',slots:= #[]})
  (hacc:ItemsOf (fun i v=>its.toArray[its.toArray.size - 1 - i]?=some v) acc its.toArray.size) (q:∀ L,H L=none→Q (.ref L) (upd H L (.lst ys.reverse))):EP X pins σ Q (.ref (s.heap.objs.size+1)) {s with heap:=h',toks:=tk}:=by
 have big:(1000:Nat)≤sizeLine:=O0;have hl:=rv.length;have accl:acc.toList.length=its.length:=by rw [Dp,hacc.1,Ar]
 have rva:qP ys.reverse acc.toList:=qfy (by rw [A4,accl];exact hl) fun j x u h1 h2=>by
  have hj:j<ys.length:=by
   have:=(B2.mp h1).1
   rwa [A4] at this
  have e1:=hacc.2 j u (by simpa using h2)
  dsimp only at e1;rw [List.getElem?_toArray,Ar] at e1;rw [List.getElem?_reverse hj] at h1;obtain ⟨u',hu',ru⟩:=rv.get h1;rw [hl] at hu';rw [hu'] at e1;cases e1;exact ru
 have lt:∀ b o,s.heap.get? b=some o→b<s.heap.objs.size:=fun b o e=>Al e;have k':∀ b o,b≠s.heap.objs.size→s.heap.get? b=some o→h'.get? b=some o:=fun b o hb e=>k b o hb (Af _ e);have I1:Inv X pins σ H {s with heap:=h',toks:=tk}:=I.turned (it:=s.heap.objs.size) (t':=tk) k' (I.hok.fresh (Ah _)) (Cv I.lt) (.inr I.sz) (fun x c e=>by
  obtain ⟨v,ob,hob,_⟩:=I.cell x c e;exact A8 (lt c ob hob)) (fun p hp=>A8 (lt p.1 p.2 (I.pin p hp).1))
 have hS0:H (s.heap.objs.size+1)=none:=I.hok.fresh (Ds _);have I2:=I1.trackN (D:=s.heap.objs.size+1) (o:= .lst ys.reverse) hS0 (Cv (Ek I.lt)) (C8 (Dm I.sz)) (fun x c e=>by
  obtain ⟨v,ob,hob,_⟩:=I.cell x c e;exact A8 (Ek (lt c ob hob))) (fun p hp=>A8 (Ek (lt p.1 p.2 (I.pin p hp).1))) ⟨by rw [A4];omega,acc.toList,c',rva,by simpa using hS⟩
 exact ⟨.ref (s.heap.objs.size+1),_,I2,rfl,q _ hS0⟩
theorem qar (hK:X.K=K) (hc:X.calm=true) (hm1:X.mg "list"=none) (hm2:X.mg "reversed"=none) (ha:PA X [a] ta) (hg1:Gl X "list":=by rfl) (hg2:Gl X "reversed":=by rfl) (hs:starEach [a] X.env=[(false,eval a X.env)]:=by rfl)
  (hs2:starEach [.Call (.Name "reversed" p2) [a] [] pos2] X.env=[(false,eval (.Call (.Name "reversed" p2) [a] [] pos2) X.env)]:=by rfl):PE X (.Call (.Name "list" p1) [.Call (.Name "reversed" p2) [a] [] pos2] [] pos1) (qak K ta):=by
 subst hK;intro pins s σ H Q I h;refine Eg (JL I hg1 hm1 WT (B8 ?_ hs2 rfl));rw [hs2];refine Calls.spliced_cons ?_;refine Call_ (JL I hg2 hm2 Wl (B8 (thn (ha pos2 pins s σ H _ I h) fun us s1 ⟨vs,H1,I1,r1,l,ys,ev,hz,hq,q⟩=>?_) hs rfl));subst ev;obtain ⟨u,rfl,rx⟩:=Ja r1;cases rx;have big:(1000:Nat)≤sizeLine:=O0;rcases hq with hq | hq
 ·obtain ⟨its,rv,pl,_⟩:=I1.list hq;have hl:=rv.length;have ne:l≠s1.heap.objs.size:=A8 (let ⟨_,ho,_⟩:=pl.isList;Al ho);refine call_reversed_list pl.isList (Calls.spliced_nil ?_);have st0:(0≤its.toArray.size)∧(s1.heap.push (revObj l ((its.toArray.size:Int) - 1))).IsRevIter s1.heap.objs.size l ((its.toArray.size:Int) - 1 - ((0:Nat):Int))∧(s1.heap.push (revObj l ((its.toArray.size:Int) - 1))).IsList l its.toArray:=
   ⟨Bm _,⟨_,Aw _ rfl,rfl,by simp [revObj]⟩,pl.isList.at fun o e=>Af _ e⟩
  refine ZD (s:={s1 with heap:=s1.heap.push (revObj l ((its.toArray.size:Int) - 1))}) (qf2 ne its.toArray) (I1.ok.hd hc) st0 (by rw [Ar,← hl];omega) fun h' tk acc c' k hS hacc=>?_
  rw [Cy] at hS ⊢;exact qaq I1 hz rv k hS hacc q
 ·obtain ⟨its,rv,pt,_⟩:=I1.tuple hq;have hl:=rv.length;have ne:l≠s1.heap.objs.size:=A8 (let ⟨_,ho,_⟩:=pt;Al ho);refine yR pt (by rw [Ar,← hl];omega) fun tk0=>Calls.spliced_nil ?_
  have st0:(0≤its.toArray.size)∧jP (s1.heap.push (qb6 l ((its.toArray.size:Int) - 1))) s1.heap.objs.size l ((its.toArray.size:Int) - 1 - ((0:Nat):Int))∧IsTup (s1.heap.push (qb6 l ((its.toArray.size:Int) - 1))) l its.toArray:=
   ⟨Bm _,⟨_,Aw _ rfl,rfl,by simp [qb6]⟩,let ⟨o,ho,r⟩:=pt;⟨o,Af _ ho,r⟩⟩
  refine ZD (s:={s1 with heap:=s1.heap.push (qb6 l ((its.toArray.size:Int) - 1)),toks:=tk0}) (qf1 ne its.toArray (by rw [Ar,← hl];omega)) (I1.ok.hd hc) st0 (by rw [Ar,← hl];omega) fun h' tk acc c' k hS hacc=>?_
  rw [Cy] at hS ⊢;exact qaq I1 hz rv k hS hacc q
end
def Ite (K:Frag) (l:Addr):It:=
 ⟨fun i H=>∃ xs x,SqL K H l xs∧xs[i]?=some x,
  fun i H v H'=>∃ p x,H p=none∧v= .ref p∧(∀ xs,SqL K H l xs→xs[i]?=some x)∧H'=upd H p (.tup [.int (i:Nat),x]),
  fun i H=>∃ xs,SqL K H l xs∧xs.length≤i⟩
theorem qbu {P:Program} {w:World} {K:Frag} {elts:List Expr} {c:Nat} {pos:Pos} {e it l:Addr} (hei:e≠it):
  Turn P w K (.Tuple elts c pos) (Ite K l) [e,it] e (fun i h=>(∃ old,IsEnum h e it (i:Int) old)∧h.IsListIter it l i) where
 mem:=by simp
 obj:=fun i h st x hx=>by
  obtain ⟨⟨old,he⟩,⟨o1,e1,c1,d1⟩⟩:=st;simp only [Ap,Bg,or_false] at hx;rcases hx with rfl | rfl
  ·exact ⟨_,he,fun v e=>by cases e⟩
  ·exact ⟨o1,e1,fun v e=>by rw [d1] at e;cases e⟩
 keep:=fun i h h' st k=>by
  obtain ⟨⟨old,he⟩,h1⟩:=st;exact ⟨⟨old,k e (by simp) _ he⟩,h1.at fun o z=>k it (by simp) o z⟩
 item:=by
  intro X hP hw hK hc i pins s σ H E I hf st hg;subst hP hw hK;obtain ⟨xs,x,hq,hx⟩:=hg;obtain ⟨its,rv,p,hz⟩:=I.list hq;obtain ⟨u,hu,ru⟩:=rv.get hx;obtain ⟨⟨old,he⟩,hit⟩:=st;refine wpAny_pyNext_enum_item he hit p.isList (x:=u) (by simpa using hu) hei fun h1 z1 k1 pr sz kk=>?_
  refine ⟨_,rfl,wpAny_letOwnedTupleGo_enum (s:={s with heap:=h1,toks:=s.toks+1}) z1 fun h2 z2 sb=>?_⟩
  have kk2:∀ c o,c∉[e,it]→s.heap.get? c=some o→h2.get? c=some o:=fun c o hc z=>by
   simp only [Ap,Bg,or_false,not_or] at hc;exact sb.extBut _ _ hc.1 (kk c o hc.1 hc.2 z)
  have I1:Inv X pins σ H {s with heap:=h2,toks:=s.toks+1}:=I.turns (t':=s.toks+1) (ch:=[e,it]) (fun b hb=>hf b hb) kk2
  have helt:e<s.heap.objs.size:=Al he;have pr2:h2.get? s.heap.objs.size=some {cls:= .type "tuple",data:= .seq #[.int (i:Nat) s.toks,u]}:=sb.extBut _ _ (Cv helt) pr;have f:=I.fpOk (b:=s.heap.objs.size) (H':=H) (Ah _) (I.hok.fresh (Ah _));have I2:Inv X pins σ (upd H s.heap.objs.size (.tup [.int (i:Nat),x])) {s with heap:=h2,toks:=s.toks+1}:=I1.trackN f.1 f.2.1 (C8 I.sz) f.2.2.2.2.1 f.2.2.2.2.2 ⟨by simp [sizeLine],[.int (i:Nat) s.toks,u],.cons ⟨_,rfl⟩ (.cons ru .nil),⟨_,pr2,rfl,_,rfl⟩⟩
  refine ⟨.ref s.heap.objs.size,_,I2,rfl,⟨s.heap.objs.size,x,f.1,rfl,fun zs hzs=>by rw [I.list_inj hzs hq];exact hx,rfl⟩,?_,fun b hb=>?_⟩
  ·exact ⟨⟨_,z2⟩,k1.extBut sb.extBut hei.symm⟩
  ·rw [qm (fun z=>?_)]
   ·exact (hf b hb).1
   ·have lt:b<s.heap.objs.size:=by
     obtain ⟨o1,e1,c1,d1⟩:=hit;simp only [Ap,Bg,or_false] at hb;rcases hb with rfl | rfl
     ·exact helt
     ·exact Al e1
    exact A8 lt z
 done:=by
  intro X hP hw hK hc i pins s σ H E I hf st hg;subst hP hw hK;obtain ⟨xs,hq,hl⟩:=hg;obtain ⟨its,rv,p,hz⟩:=I.list hq;have l1:=rv.length;obtain ⟨⟨old,he⟩,hit⟩:=st;refine wpAny_pyNext_enum_end (I.ok.hd hc) he hit p.isList (by simp;omega) fun h1 kk=>⟨rfl,?_⟩
  exact I.turns (t':=s.toks) (ch:=[e,it]) (fun b hb=>hf b hb) fun c o hc z=>kk c o (fun y=>hc (by simp [y])) z
 self:=fun _ _ _ _ _ st h=>wpAny_pyIter_enum st.1.choose_spec h
def qk8 (K:Frag) (ta:TA):TI:=fun σ H R=>ta σ H fun vs H1=>∃ a:Addr,vs=[.ref a]∧(∃ xs,SqL K H1 a xs)∧R (Ite K a) H1
theorem X1:bootBuiltins "enumerate"=some (.type "enumerate"):=∅
theorem qgr {X:Cx} {K:Frag} {elts:List Expr} {c:Nat} {tpos:Pos} {a:Expr} {ta:TA} {p pos:Pos} (hK:X.K=K) (hm:X.mg "enumerate"=none) (ha:PA X [a] ta) (hg:Gl X "enumerate":=by rfl)
  (hs:starEach [a] X.env=[(false,eval a X.env)]:=by rfl):PI X (.Tuple elts c tpos) (.Call (.Name "enumerate" p) [a] [] pos) (qk8 K ta):=by
 intro pins s σ H R I h;subst hK;refine Call_ (JL I hg hm X1 (B8 (thn (ha pos pins s σ H _ I h) fun us s1 ⟨vs,H1,I1,r1,l,e,⟨xs,hx⟩,q⟩=>?_) hs rfl));subst e;obtain ⟨u1,rfl,r⟩:=Ja r1;cases r;obtain ⟨its,rv,pl,hz⟩:=I1.list hx;refine call_enumerate_list pl.isList fun h' Z1 Z2 _ k=>?_;refine wpAny_pyIter_enum Z1 ⟨_,[s1.heap.objs.size+1,s1.heap.objs.size],_,_,H1,rfl,I1.kept (t':=s1.toks) k,qbu (Cv (Er _)),⟨⟨_,Z1⟩,Z2⟩,fun b hb=>?_,q⟩;have hb':s1.heap.objs.size≤b:=by
  simp only [Ap,Bg,or_false] at hb;rcases hb with e | e <;> rw [e] <;> first | exact Ds _ | exact Ah _
 exact I1.fpOk hb' (I1.hok.fresh hb')
structure MakeA (P:Program) (w:World) (K:Frag) (mg:Str→Option Value) (base:Heap) (x:Str) (C:Addr) (k:Nat) (ps:List Str) (sp:Sp):Prop where
 ex:∃ (f:Addr) (fd:FuncData),FnOk P w K mg base CX0 k f fd ps sp∧Jd K fd ps []∧Mk K C f
 mC:mg x=some (.ref C)
theorem qiv {X:Cx} {x:Str} {C:Addr} {k:Nat} {ps:List Str} {sp:Sp} {e:Expr} {es:List Expr} {t:TA} {p pos:Pos} (D:MakeA X.prog X.w X.K X.mg X.base x C k ps sp) (hr:Room (k+1) X.A) (ha:PA X (e::es) t) (hg:Gl X x:=by rfl) (hdb:(x==("__debug__":Str))=false:=by decide)
  (he:starEach (e::es) X.env=(false,eval e X.env)::starEach es X.env:=by rfl) (hpl:(backTo pos (starEach es X.env)).any (·.1)=false:=by rfl):PE X (.Call (.Name x p) (e::es) [] pos) (qhq C sp [] E0 t):=by
 obtain ⟨f,fd,F,B,M⟩:=D.ex;exact qgu M F hr hg D.mC B .nil qep ha hdb he hpl
theorem qax:∀ {us:List Value} {ss:List Str},StrsAre us ss→qP (ss.map V.str) us
 | _,_,.nil=> .nil
 | _,_,.cons x k t=> .cons ⟨k,rfl⟩ (qax t)
theorem Zp:∀ {us:List Value} {ss:List Str},StrsAre us ss→us.length=ss.length
 | _,_,.nil=>rfl
 | _,_,.cons x k t=>by rw [Aj,Aj,Zp t]
theorem qf0 {us:List Value} {ks:List Str} (hl:us.length=ks.length) (h:∀ (i:Nat) (u:Value) (k:Str),us[i]?=some u→ks[i]?=some k→∃ t,u=Value.str k t):StrsAre us ks:=by
 induction us generalizing ks with
 | nil=>
  cases ks with
  | nil=>exact .nil
  | cons a b=>simp at hl
 | cons u us ih=>
  cases ks with
  | nil=>simp at hl
  | cons k ks=>
   obtain ⟨t,rfl⟩:=h 0 u k rfl rfl;exact .cons k t (ih (by simpa using hl) fun i y v h1 h2=>h (i+1) y v (by simpa using h1) (by simpa using h2))
theorem yp (k:Str):∀ {vs:List Value} {ns:List Str},StrsAre vs ns→∀ (j:Nat) (h1:j<vs.length) (h2:j<ns.length),isStrOf k vs[j]=(ns[j]==k)
 | _,_,.cons n t _,0,_,_=>rfl
 | _,_,.cons n t r,j+1,h1,h2=>yp k r j (Nat.lt_of_succ_lt_succ h1) (Nat.lt_of_succ_lt_succ h2)
theorem YR {k:Str}:∀ {ns:List Str} {j:Nat},j<ns.idxOf k→∀ (h2:j<ns.length),(ns[j]==k)=false
 | n::r,0,h,_=>by
  by_cases e:n=k
  ·subst e;rw [List.idxOf_cons_self] at h;omega
  ·simpa using e
 | n::r,j+1,h,h2=>by
  by_cases e:n=k
  ·subst e;rw [List.idxOf_cons_self] at h;omega
  ·rw [List.idxOf_cons,show (n==k)=false from by simpa using e] at h
   exact YR (ns:=r) (by simpa using h) (Nat.lt_of_succ_lt_succ h2)
section
variable {X:Cx} {K:Frag}
theorem qci (hK:X.K=K):MtR X "list.index" (fun x xs H Q=>∃ (l:Addr) (ys:List Str) (k:Str),x= .ref l∧xs=[.str k]∧SqL K H l (ys.map V.str)∧k∈ys∧ys.length≤1000∧Q (.int (ys.idxOf k:Nat)) H):=by
 subst hK;intro pins s σ H x xs v us Q I rx r h;obtain ⟨l,ys,k,rfl,rfl,hq,hk,hz,q⟩:=h;cases (show v=Value.ref l from rx);obtain ⟨u,rfl,t,rfl⟩:=Ja r;obtain ⟨its,rv,pl,_⟩:=I.list hq;have hS:=Xi rv;have hlen:=Zp hS;have hj:ys.idxOf k<ys.length:=List.idxOf_lt_length_iff.mpr hk;obtain ⟨⟨cls,dd,data,sl⟩,ho,hc,n,hd⟩:=id pl.isList;simp only at hc hd;subst hc hd;refine call_meets PySem.F.slot_list_index ⟨_,ho,rfl⟩ PySem.F.entry_list_index (PySem.F.args_list_index_2 _ _)
  (SeqAt.list_indexAt l its.toArray n dd sl (.str k t) (isStrOf k) (ys.idxOf k) (by simpa [hlen] using hj) ⋯ ?_ ?_) ⟨ho,fun y hy=>(eq_isStrOf k t hS y (by simpa using hy)).at _ _,⟨.int (ys.idxOf k:Nat),H,I.tok _,⟨_,rfl⟩,q⟩⟩
 ·show isStrOf k its[ys.idxOf k]=true;rw [yp k hS _ ⋯ hj];simpa using List.getElem_idxOf hj
 ·intro j hjs hlt;show isStrOf k its[j]=false;rw [yp k hS j (by simpa using hjs) ⋯]
  exact YR hlt _
theorem XZ (hc:X.calm=true):jK X (.builtin "sorted") (fun xs H Q=>∃ (d:Addr) (kvs:List (Key×V)) (ks:List Str),xs=[.ref d]∧H d=some (.dK kvs)∧kvs.map (·.1)=ks.map Sum.inr∧ks.length<64∧
  ∀ ns:List Str,ns.Perm ks→∀ l,H l=none→Q (.ref l) (upd H l (.lst (ns.map V.str)))):=by
 intro pins s σ H xs us Q I r h;obtain ⟨d,kvs,ks,rfl,hd,hk,h64,q⟩:=h;obtain ⟨u,rfl,rx⟩:=Ja r;cases rx;obtain ⟨hz,lo,vs,rel,dd⟩:=(show zd X.prog X.w H s.heap d (.dK kvs) from I.hok d _ hd);obtain ⟨ep,hat⟩:=dd.dictAt;have hkeys:vs.map (·.1)=ks.map Sum.inr:=by rw [← rel.keys];exact hk
 have hlen:vs.length=ks.length:=by have:=congrArg List.length hkeys;simpa using this
 have big:(64:Nat)≤sizeLine:=O0;refine Calls.call_function_entry kind_sorted plain_sorted entry_sorted (args_sorted1 _) ?_;unfold Builtin.«sorted»;refine Aa (m:=checkCount "sorted" 1 1 _) (Ai ?_);refine Aa (PySem.W.kdu_collect (A:=X.A.in1) (PySem.W.kdl_dict (knd:=ze X.prog X.w) (kvs:=vs) (ep:=ep) lo) (I.ok.hd hc) hat ⋯ fun h' tk acc hkp hacc=>?_);have hl:acc.toList.length=vs.length:=by rw [Dp];exact hacc.1
 have hS:StrsAre acc.toList ks:=qf0 ⋯ fun i u k h1 h2=>by
  obtain ⟨k',x,e1,e2⟩:=hacc.2 i u (by simpa using h1)
  have e3:(vs.map (·.1))[i]?=some k':=by rw [A0,e1];rfl
  rw [hkeys,A0,h2] at e3;cases e3;rcases zo (show Wi (Sum.inr k) u=true from e2) with ⟨j,t,e,_⟩ | ⟨y,t,e,rfl⟩
  ·cases e
  ·cases e;exact ⟨t,rfl⟩
 refine Aa (wpAny_newList ?_ ⋯);have hoL:(h'.push (seqObj "list" acc.toList.toArray 0)).get? h'.objs.size=some (seqObj "list" acc.toList.toArray 0):=Aw _ rfl;show wpAny _ _ _ _ _ {s with heap:=h'.push (seqObj "list" acc.toList.toArray 0),toks:=tk}
 refine Aa (B5 (Ck slot_list_sort ⟨_,hoL,rfl⟩ entry_list_sort (list_sort_treeK strKind_oneLt hoL hS.keysOf (fun v₁ v₂ rest e=>keyKind_strs (by rw [← e];exact hS)) ⋯ fun st' hp hs=>⟨_,rfl,?_⟩) (args_list_sort _)))
 refine Ai ⟨_,rfl,?_⟩;obtain ⟨ns,a1,a2,a3⟩:=sorted_out_str hS hp hs;obtain ⟨m,em⟩:=sortedHeap_at (out:=(arrOf st').map (·.2)) hoL;have hnl:ns.length=ks.length:=a2.length_eq;have I1:Inv X pins σ H {s with heap:=h',toks:=tk}:=I.kept (t':=tk) hkp
 refine ⟨.ref h'.objs.size,_,I1.laid (t':=tk) (o:= .lst (ns.map V.str)) (fun b ob e=>(sortedHeap_old (A8 (Al e)) (Bi (Al e) (by rw [size_push'];exact Ds _))).trans (Af _ e)) (Ah _) ?_,rfl,q ns a2 _ (I1.hok.fresh (Ah _))⟩
 exact ⟨by rw [Ab];omega,((arrOf st').map (·.2)).toList,m,qax a1,by rw [Array.toArray_toList];exact em⟩
end
section
variable {K:Frag} {H:Hp} {a b:Addr} {xs zs:List V} {i:Int} {v:V} {Q:VK}
theorem v8 {t:TE} {σ:St} {R:List V→Hp→Prop} (h:t σ H fun v H1=>R [v] H1):qd t qo σ H R:=h
theorem ixT (h:SqT K H a xs) (e:atI xs i=some v) (q:Q v H):rIx K (.ref a) (.int i) H Q:= .inr (.inl ⟨a,xs,i,v,rfl,rfl,h,e,q⟩)
theorem ixL (h:SqL K H a xs) (e:atI xs i=some v) (q:Q v H):rIx K (.ref a) (.int i) H Q:= .inl ⟨a,xs,i,v,rfl,rfl,h,e,q⟩
theorem apd (h:H a=some (.lst xs)) (z:xs.length<sizeLine) (q:Q .non (upd H a (.lst (xs++[v])))):z9 (.ref a) [v] H Q:=⟨a,xs,v,rfl,rfl,h,z,q⟩
theorem exd (h:H a=some (.lst xs)) (h':H b=some (.lst zs)) (z:xs.length+zs.length≤sizeLine) (q:Q .non (upd H a (.lst (xs++zs)))):jT (.ref a) [.ref b] H Q:=⟨a,b,xs,zs,rfl,rfl,h,h',z,q⟩
theorem Wv (h:H a=some (.lst xs)) (h':H b=some (.lst zs)) (z:xs.length+zs.length≤sizeLine) (q:∀ p,H p=none→Q (.ref p) (upd H p (.lst (xs++zs)))):zW (.ref a) (.ref b) H Q:= .inr (.inr ⟨a,b,xs,zs,rfl,rfl,h,h',z,q⟩)
theorem inS {neg:Bool} {x:V} (h:SqL K H a xs∨SqT K H a xs) (f:vf x=true) (g:xs.all vf=true) (q:Q (.bl (if neg then !inV x xs else inV x xs)) H):rIn K neg x (.ref a) H Q:=⟨a,xs,rfl,h,f,g,q⟩
end
section
variable {X:Cx} {x:Str} {e a b o:Expr} {es:List Expr} {te ta tb to:TE} {t:TA} {p pos pos' apos cpos:Pos}
theorem pst (i:Nat) (hN:X.N.Nodup) (he:PE X e te) (hi:X.N[i]?=some x:=by rfl) (hx:Loc X.env.scope x:=by first | exact Or.inl rfl | exact Or.inr rfl) (hs:swapsWith e (some (.Name x pos')) pos.line X.env=pure false:=by rfl)
  (hf:X.fn x=true∨X.env.scope.names.lookup x=some .local:=by first | exact .inl rfl | exact .inr rfl | assumption):PS X (.Assign [.Name x pos'] e pos) (qX te (qv i)):=qio hN hi hx he hs hf
theorem pgn (i:Nat) (hN:X.N.Nodup) (hi:X.N[i]?=some x:=by rfl) (hx:Loc X.env.scope x:=by first | exact Or.inl rfl | exact Or.inr rfl) (hf:X.fn x=true∨X.env.scope.names.lookup x=some .local:=by first | exact .inl rfl | exact .inr rfl | assumption):PG X (.Name x pos) (qv i):=zn hN hi hx hf
theorem pix (K:Frag) (ha:PE X a ta) (hb:PE X b tb) (hK:X.K=K:=by rfl) (hs:qbl b:=by intro _ _;rfl):PE X (.Subscript a b pos) (tOp (rIx K) ta tb):=qks (ix_k hK) ha hb hs
theorem pdf {k:Nat} {ps:List Str} {sp:Sp} (D:Def X.prog X.w X.K X.mg X.base k x ps sp) (ha:PA X (e::es) t) (hr:Room k X.A:=by first | assumption | exact Room.mono (by assumption) (by first | decide | omega)) (hg:Gl X x:=by rfl)
  (hdb:(x==("__debug__":Str))=false:=by decide) (he:starEach (e::es) X.env=(false,eval e X.env)::starEach es X.env:=by rfl) (hpl:(backTo pos (starEach es X.env)).any (·.1)=false:=by rfl):PE X (.Call (.Name x p) (e::es) [] pos) (qE sp [] E0 t):=qiy D hr ha hg hdb he hpl
end
def FA (K:Frag) (f:Addr) (x q:Str) (st:Stmt):Prop:=∃ (od:Option Addr) (kV dc pm:Value) (an:Option Addr) (cd ct:Value) (sl:Array (Option Value)),K.lookup f=some ⟨.type "function",od,.func (PySem.W.fnOf x q (vZ st) (jU st) (qj st) .none kV dc pm an cd ct),sl⟩∧PySem.W.codeIn K cd q=true∧PySem.W.keepIn K (.ref f)=true
theorem FA.fn {K:Frag} {f:Addr} {x q:Str} {st:Stmt} (h:FA K f x q st):∃ fd,Fun K x q st f fd∧PySem.W.keepIn K (.ref f)=true:=by
 obtain ⟨_,_,_,_,_,_,_,_,l,c,k⟩:=h;exact ⟨_,qe9 l c k,k⟩
theorem FA.oi {K:Frag} {f C:Addr} {x q:Str} {st:Stmt} (h:FA K f x q st) (e:XS K C f=true):yU K C f:=by
 obtain ⟨_,_,_,_,_,_,_,_,l,_,_⟩:=h;exact qdi e l rfl
section
variable {K:Frag} {H:Hp} {v:V} {G:Prop} {s:Str} {d d1 d2 d3 d4 d5:PyData} {ds:List PyData} {ys:List V}
theorem Rep.strI (h:Rep K H v (.str s)):v= .str s:=by
 cases h;rfl
theorem Reps.nilI (h:Reps K H ys []):ys=[]:=by
 cases h;rfl
theorem Reps.ct (h:Reps K H ys (d::ds)) (k:∀ y ys',ys=y::ys'→Rep K H y d→Reps K H ys' ds→G):G:=by
 cases h with
 | cons h t=>exact k _ _ rfl h t
theorem Rep.tpl (h:Rep K H v (.tuple ds)) (k:∀ a ys,v= .ref a→SqT K H a ys→Reps K H ys ds→G):G:=by
 cases h with
 | tup h t=>exact k _ _ rfl h t
theorem Rep.tp1 (h:Rep K H v (.tuple (.str s::ds))) (k:∀ a ys,v= .ref a→SqT K H a (.str s::ys)→Reps K H ys ds→G):G:=h.tpl fun a _ e q z=>z.ct fun _ ys e1 r0 z1=>by
 cases r0.strI;cases e1;exact k a ys e q z1
theorem Rep.tp3 (h:Rep K H v (.tuple [.str s,d1,d2])) (k:∀ a y1 y2,v= .ref a→SqT K H a [.str s,y1,y2]→Rep K H y1 d1→Rep K H y2 d2→G):G:=h.tp1 fun a _ e q z=>z.ct fun y1 _ e1 r1 z1=>z1.ct fun y2 _ e2 r2 z2=>by
 cases z2.nilI;cases e2;cases e1;exact k a y1 y2 e q r1 r2
theorem Rep.tp4 (h:Rep K H v (.tuple [.str s,d1,d2,d3])) (k:∀ a y1 y2 y3,v= .ref a→SqT K H a [.str s,y1,y2,y3]→Rep K H y1 d1→Rep K H y2 d2→Rep K H y3 d3→G):G:=h.tp1 fun a _ e q z=>z.ct fun y1 _ e1 r1 z1=>z1.ct fun y2 _ e2 r2 z2=>z2.ct fun y3 _ e3 r3 z3=>by
 cases z3.nilI;cases e3;cases e2;cases e1;exact k a y1 y2 y3 e q r1 r2 r3
theorem Rep.tp6 (h:Rep K H v (.tuple [.str s,d1,d2,d3,d4,d5])) (k:∀ a y1 y2 y3 y4 y5,v= .ref a→SqT K H a [.str s,y1,y2,y3,y4,y5]→Rep K H y1 d1→Rep K H y2 d2→Rep K H y3 d3→Rep K H y4 d4→Rep K H y5 d5→G):G:=h.tp1 fun a _ e q z=>z.ct fun y1 _ e1 r1 z1=>z1.ct fun y2 _ e2 r2 z2=>z2.ct fun y3 _ e3 r3 z3=>z3.ct fun y4 _ e4 r4 z4=>z4.ct fun y5 _ e5 r5 z5=>by
 cases z5.nilI;cases e5;cases e4;cases e3;cases e2;cases e1;exact k a y1 y2 y3 y4 y5 e q r1 r2 r3 r4 r5
theorem Rep.pair (h:Rep K H v (.tuple [d1,d2])) (k:∀ a y1 y2,v= .ref a→SqT K H a [y1,y2]→Rep K H y1 d1→Rep K H y2 d2→G):G:=h.tpl fun a _ e q z=>z.ct fun y1 _ e1 r1 z1=>z1.ct fun y2 _ e2 r2 z2=>by
 cases z2.nilI;cases e2;cases e1;exact k a y1 y2 e q r1 r2
end
theorem big:(2000:Nat)<sizeLine:=O0
theorem qQ {n:Nat} (h:n≤2000):n≤sizeLine:=Av h (Nat.le_of_lt big)
theorem Jx {n:Nat} (h:n≤2000):n<sizeLine:=C4 h big
theorem YI {s r:TS} {D:Ends} {σ:St} {H:Hp} (h:∀ D':Ends,(∀ σ H,r D σ H→D'.nx σ H)→(∀ v H,D.rt v H→D'.rt v H)→s D' σ H):qG s r D σ H:=h _ (fun _ _ q=>q) fun _ _ q=>q
theorem Vz {c:TT} {t u:TS} {D:Ends} {σ:St} {H:Hp} (h:∀ B:Bool→Hp→Prop,(∀ H,t D σ H→B true H)→(∀ H,u D σ H→B false H)→c σ H B):zz c t u D σ H:=h _ (fun _ q=>qZ rfl q) fun _ q=>qR rfl q
theorem bP {B:Bool→Hp→Prop} {b:Bool} {H:Hp} (e:b=true) (h:B true H):B b H:=e▸h
theorem bN {B:Bool→Hp→Prop} {b:Bool} {H:Hp} (e:b=false) (h:B false H):B b H:=e▸h
theorem va {α:Type} {l:List α} {i:Nat} (h:i<l.length):∃ x,l[i]?=some x:=⟨_,Aq h⟩
theorem yM {α:Type} {l:List α} {i:Nat} {x:α} (h:l[i]?=some x):l.drop i=x::l.drop (i+1):=by
 obtain ⟨hi,rfl⟩:=B2.mp h;exact List.drop_eq_getElem_cons hi
theorem qj5 {X:(St→Hp→Prop)→Prop} {Z:St→Hp→Prop} (h:∀ N:St→Hp→Prop,(∀ σ H,Z σ H→N σ H)→X N):∃ N:St→Hp→Prop,(∀ σ H,N σ H→Z σ H)∧X N:=⟨Z,fun _ _ q=>q,h Z fun _ _ q=>q⟩
theorem gD {s:TS} {D:Ends} {σ:St} {H:Hp} (h:∀ D':Ends,(∀ σ H,D.nx σ H→D'.nx σ H)→(∀ v H,D.rt v H→D'.rt v H)→s D' σ H):s D σ H:=h D (fun _ _ q=>q) fun _ _ q=>q
end L2
namespace Bud
def PT (n:Nat) (deep k l:Int):Prop:=deep≤(n:Int)∧0≤k∧k+4*l≤1000 - 10*(n:Int)∧2000*(n:Int) - 30500≤l∧n≤10
def PB (n:Nat) (deep k l:Int):Prop:=deep≤(n:Int)∧0≤k∧k+4*l≤999 - 10*(n:Int)∧2000*(n:Int) - 29000≤l∧n≤10
def PS (n:Nat) (deep k l:Int):Prop:=deep≤(n:Int)∧0≤k∧k+4*l≤1000 - 10*(n:Int)∧2000*(n:Int) - 30000≤l∧n≤10
def BT (n:Nat) (deep k l:Int) (s t:Nat) (k' l':Int):Prop:=(s:Int)=l - l'∧t≤n+2∧k'+4*l'≤k+4*l∧k≤k'∧(l≤0→l - 1≤l')∧(0<l→ -(16*(n:Int)+1)≤l')∧(deep<1→t=1)
def BB (n:Nat) (k l:Int) (s t:Nat) (k' l':Int):Prop:=(s:Int)=l - l'∧t≤n+2∧k'+4*l'≤k+4*l+1∧k≤k'∧(l≤0→l - 6≤l')∧(0<l→ -(16*(n:Int)+5)≤l')
def BS (n:Nat) (k l:Int) (s t:Nat) (k' l':Int):Prop:=(s:Int)=l - l'∧t≤n+2∧k'+4*l'≤k+4*l∧k≤k'∧(l≤0→l - 2≤l')∧(0<l→ -(16*(n:Int)+1)≤l')
section
variable {n m i s s1 s2 s3 t t1 t2 t3:Nat} {deep k l k1 l1 k2 l2 k3 l3 k' l':Int}
theorem Zn {a b c:Int} {x y:Nat} (h:(x:Int)=a - b) (g:(y:Int)=b - c):((x+y:Nat):Int)=a - c:=⋯
theorem QD {a c:Int} {x:Nat} (h:(x:Int)=a - 1 - c):((x+1:Nat):Int)=a - c:=⋯
theorem kl3 {a:Int} (h:a≤k+1+4*(l - 1)):a≤k+4*l - 3:=⋯
theorem ge3 {a b:Int} (h:a≤b - 3):a≤b:=⋯
theorem le1 {a b:Int} (h:a+1≤b):a≤b:=⋯
def BI (n:Nat) (k l:Int) (i:Nat) (s t:Nat) (k' l':Int):Prop:=(s:Int)=l - l'∧t≤n+2∧k'+4*l'≤k+1+4*l∧k+1≤k'∧(l≤0→l - 2*i≤l')∧(0<l→ -(16*(n:Int)+1) - 2*i≤l' - 2)
theorem BI.nil:BI n k l 0 0 0 (k+1) l:=⟨(Int.sub_self l).symm,Bm _,Int.le_refl _,Int.le_refl _,⋯,⋯⟩
theorem BI.pre (p:PB n deep k l) (h:BI n k l i s t k' l') (hi:i<3):PS n deep k' l':=by
 obtain ⟨p1,p2,p3,p4,p5⟩:=p;obtain ⟨_,_,h3,h4,h5,h6⟩:=h;exact ⟨p1,B1 p2 (le1 h4),by clear p4 h5 h6;omega,by clear p3 h3 h4;omega,p5⟩
theorem BI.snoc (h:BI n k l i s t k' l') (b:BS n k' l' s2 t2 k2 l2):BI n k l (i+1) (s+s2) (max t t2) k2 l2:=by
 obtain ⟨h1,h2,h3,h4,h5,h6⟩:=h;obtain ⟨b1,b2,b3,b4,b5,b6⟩:=b;refine ⟨Zn h1 b1,Dt.mpr ⟨h2,b2⟩,B1 b3 h3,B1 h4 b4,?_,?_⟩
 all_goals clear h2 h3 h4 b1 b2 b3 b4;omega
theorem BI.out (h:BI n k l i s t k' l') (hi:i≤3):BB n k l s t k' l':=by
 obtain ⟨h1,h2,h3,h4,h5,h6⟩:=h;refine ⟨h1,h2,by clear h5 h6;omega,le1 h4,?_,?_⟩
 all_goals clear h1 h2 h3 h4;omega
def S (n:Nat) (deep k l:Int):Prop:=deep - 1≤(n:Int)∧0≤k∧k+4*l - 3≤987 - 10*(n:Int)∧0≤l - 1∧1≤deep∧n≤9
theorem BT.one:BT n deep k l 1 1 (k+1) (l - 1):=⟨⋯,Nat.le_add_left 1 (n+1),⋯,⋯,fun _=>Int.le_refl _,⋯,fun _=>rfl⟩
def Mid (n:Nat) (k1 l1:Int):Prop:=0≤k1∧k1+4*l1≤987 - 10*(n:Int)∧ -200≤l1
theorem Mid.pb (c:Mid n k1 l1) (h1:deep - 1≤(n:Int)) (h6:n≤9):PB n (deep - 1) k1 l1:=by
 obtain ⟨c1,c2,c3⟩:=c;exact ⟨h1,c1,⋯,⋯,Dm h6⟩
theorem PB.pt (c:PB n deep k l):PT n deep k l:=by
 obtain ⟨c1,c2,c3,c4,c5⟩:=c;exact ⟨c1,c2,⋯,⋯,c5⟩
theorem S.pb (h:S n deep k l):PB n (deep - 1) (k+1) (l - 1):=by
 obtain ⟨h1,h2,h3,h4,_,h6⟩:=h;exact Mid.pb ⟨⋯,⋯,⋯⟩ h1 h6
theorem S.pt (h:S n deep k l):PT n (deep - 1) (k+1) (l - 1):=h.pb.pt
theorem low {a:Int} (h:0≤l) (b:l≤0→l - 1≤a) (c:0<l→ -(16*(n:Int)+1)≤a): -(16*(n:Int)+1)≤a:=⋯
theorem S.low (h:S n deep k l) (b:BT n (deep - 1) (k+1) (l - 1) s1 t1 k1 l1): -(16*(n:Int)+1)≤l1:=Bud.low h.2.2.2.1 b.2.2.2.2.1 b.2.2.2.2.2.1
theorem S.mid (h:S n deep k l) (b:BT n (deep - 1) (k+1) (l - 1) s1 t1 k1 l1):Mid n k1 l1:=by
 have c:=h.low b;have h6:=h.2.2.2.2.2;exact ⟨B1 h.2.1 (le1 b.2.2.2.1),B1 (kl3 b.2.2.1) h.2.2.1,⋯⟩
theorem S.pb1 (h:S n deep k l) (b:BT n (deep - 1) (k+1) (l - 1) s1 t1 k1 l1):PB n (deep - 1) k1 l1:=(h.mid b).pb h.1 h.2.2.2.2.2
theorem S.pt1 (h:S n deep k l) (b:BT n (deep - 1) (k+1) (l - 1) s1 t1 k1 l1):PT n (deep - 1) k1 l1:=(h.pb1 b).pt
theorem no0 {P:Prop} (h:0≤l - 1) (g:l≤0):P:=⋯
theorem no1 {P:Prop} (h:1≤deep) (g:deep<1):P:=absurd h (Int.not_le.mpr g)
theorem two_ (z: -(16*(n:Int)+1)≤l1) (c:l1≤0→l1 - 1≤l2) (c':0<l1→ -(16*(n:Int)+1)≤l2): -(16*((n+1:Nat):Int)+1)≤l2:=⋯
theorem S.two (h:S n deep k l) (b:BT n (deep - 1) (k+1) (l - 1) s1 t1 k1 l1) (c:BT n (deep - 1) k1 l1 s2 t2 k2 l2):BT (n+1) deep k l (s1+s2+1) (max t1 t2+1) k2 l2:=
 ⟨QD (Zn b.1 c.1),Cd (Dt.mpr ⟨b.2.1,c.2.1⟩),ge3 (B1 c.2.2.1 (kl3 b.2.2.1)),le1 (B1 b.2.2.2.1 c.2.2.2.1),fun g=>no0 h.2.2.2.1 g,fun _=>two_ (h.low b) c.2.2.2.2.1 c.2.2.2.2.2.1,no1 h.2.2.2.2.1⟩
theorem fn_ (b:l - 1≤0→l - 1 - 6≤l1) (c:0<l - 1→ -(16*(n:Int)+5)≤l1) (h:0≤l - 1): -(16*((n+1:Nat):Int)+1)≤l1:=⋯
theorem S.fn (h:S n deep k l) (b:BB n (k+1) (l - 1) s1 t1 k1 l1):BT (n+1) deep k l (s1+1) (t1+1) k1 l1:=
 ⟨QD b.1,Cd b.2.1,by have:=b.2.2.1;omega,le1 b.2.2.2.1,fun g=>no0 h.2.2.2.1 g,fun _=>fn_ b.2.2.2.2.1 b.2.2.2.2.2 h.2.2.2.1,no1 h.2.2.2.2.1⟩
def CI (n:Nat) (k l:Int) (s1 i s t:Nat) (k' l':Int):Prop:=((s1+s:Nat):Int)=l - 1 - l'∧t≤n+2∧k'+4*l'≤k+4*l - 3∧k+1≤k'∧ -(16*(n:Int)+1) - i≤l'
theorem CI.nil (h:S n deep k l) (b:BT n (deep - 1) (k+1) (l - 1) s1 t1 k1 l1):CI n k l s1 0 0 0 k1 l1:=⟨b.1,Bm _,kl3 b.2.2.1,b.2.2.2.1,by have:=h.low b;omega⟩
theorem CI.pre (h:S n deep k l) (c:CI n k l s1 i s t k' l') (hi:i≤4):PT n (deep - 1) k' l':=by
 have h6:=h.2.2.2.2.2;have c5:=c.2.2.2.2;exact (Mid.pb (⟨B1 h.2.1 (le1 c.2.2.2.1),B1 c.2.2.1 h.2.2.1,⋯⟩:Mid n k' l') h.1 h6).pt
theorem CI.snoc (c:CI n k l s1 i s t k' l') (b:BT n (deep - 1) k' l' s2 t2 k2 l2):CI n k l s1 (i+1) (s+s2) (max t t2) k2 l2:=
 ⟨by rw [← E7];exact Zn c.1 b.1,Dt.mpr ⟨c.2.1,b.2.1⟩,B1 b.2.2.1 c.2.2.1,B1 c.2.2.2.1 b.2.2.2.1,by
  have c5:=c.2.2.2.2;have b5:=b.2.2.2.2.1;have b6:=b.2.2.2.2.2.1;omega⟩
theorem CI.out (h:S n deep k l) (b:BT n (deep - 1) (k+1) (l - 1) s1 t1 k1 l1) (c:CI n k l s1 i s t k' l') (hi:i≤4):BT (n+1) deep k l (s1+s+1) (max t1 t+1) k' l':=
 ⟨QD c.1,Cd (Dt.mpr ⟨b.2.1,c.2.1⟩),ge3 c.2.2.1,le1 c.2.2.2.1,fun g=>no0 h.2.2.2.1 g,fun _=>by have c5:=c.2.2.2.2;omega,no1 h.2.2.2.2.1⟩
def Near (n m:Nat):Prop:=m≤n∧(n=0∨n=m+1)
theorem PS.pt (p:PS n deep k l) (z:Near n m):PT m (deep - 1) (k+1) (l - 1):=by
 obtain ⟨p1,p2,p3,p4,p5⟩:=p;obtain ⟨z1,z2⟩:=z;exact ⟨by clear p3 p4;omega,⋯,by clear p1 p4;omega,by clear p1 p3;omega,Av z1 p5⟩
theorem PS.one (p:PS n deep k l) (z:Near n m) (b:BT m (deep - 1) (k+1) (l - 1) s1 t1 k1 l1):BS n k l (s1+1) (t1+1) k1 l1:=by
 obtain ⟨p1,_,_,_,_⟩:=p;obtain ⟨z1,z2⟩:=z;obtain ⟨b1,b2,b3,b4,b5,b6,b7⟩:=b;exact ⟨QD b1,by clear b1 b3 b4 b5 b6;omega,ge3 (kl3 b3),le1 b4,fun g=>by clear b1 b2 b3 b4 b6 b7;omega,fun g=>by clear b1 b2 b3 b4 b7 p1;omega⟩
theorem PS.many (p:PS (n+1) deep k l) (h:0≤l - 1) (d:1≤deep):S n deep k l:=by
 obtain ⟨p1,p2,p3,_,p5⟩:=p;exact ⟨⋯,p2,⋯,h,d,Nat.le_of_succ_le_succ p5⟩
theorem PT.many (p:PT (n+1) deep k l) (h:0≤l - 1) (d:1≤deep):S n deep k l:=by
 obtain ⟨p1,p2,p3,_,p5⟩:=p;exact ⟨⋯,p2,⋯,h,d,Nat.le_of_succ_le_succ p5⟩
theorem wh_ {a:Int} (h:a≤k1+4*l1+1) (g:k1+4*l1≤k+4*l - 3):a≤k+4*l - 2:=⋯
theorem ge2 {a b:Int} (h:a≤b - 2):a≤b:=⋯
theorem bb_ (z: -(16*(n:Int)+1)≤l1) (c:l1≤0→l1 - 6≤l2) (c':0<l1→ -(16*(n:Int)+5)≤l2): -(16*(n:Int)+7)≤l2:=⋯
theorem bb2_ (z: -(16*(n:Int)+7)≤l1) (c:l1≤0→l1 - 6≤l2) (c':0<l1→ -(16*(n:Int)+5)≤l2): -(16*((n+1:Nat):Int)+1)≤l2:=⋯
theorem wh2_ {a:Int} (h:a≤k1+4*l1+1) (g:k1+4*l1≤k+4*l - 2):a≤k+4*l:=⋯
theorem S.wh (h:S n deep k l) (b:BT n (deep - 1) (k+1) (l - 1) s1 t1 k1 l1) (c:BB n k1 l1 s2 t2 k2 l2):BS (n+1) k l (s1+s2+1) (max t1 t2+1) k2 l2:=
 ⟨QD (Zn b.1 c.1),Cd (Dt.mpr ⟨b.2.1,c.2.1⟩),ge2 (wh_ c.2.2.1 (kl3 b.2.2.1)),le1 (B1 b.2.2.2.1 c.2.2.2.1),fun g=>no0 h.2.2.2.1 g,fun _=>by have:=bb_ (h.low b) c.2.2.2.2.1 c.2.2.2.2.2;omega⟩
theorem S.pb2 (h:S n deep k l) (b:BT n (deep - 1) (k+1) (l - 1) s1 t1 k1 l1) (c:BB n k1 l1 s2 t2 k2 l2):PB n (deep - 1) k2 l2:=by
 have z:=bb_ (h.low b) c.2.2.2.2.1 c.2.2.2.2.2;have w:=wh_ c.2.2.1 (kl3 b.2.2.1);have h3:=h.2.2.1;have h6:=h.2.2.2.2.2;exact ⟨h.1,B1 (B1 h.2.1 (le1 b.2.2.2.1)) c.2.2.2.1,by clear z;omega,by clear w h3;omega,Dm h6⟩
theorem S.if_ (h:S n deep k l) (b:BT n (deep - 1) (k+1) (l - 1) s1 t1 k1 l1) (c:BB n k1 l1 s2 t2 k2 l2) (e:BB n k2 l2 s3 t3 k3 l3):BS (n+1) k l (s1+(s2+s3)+1) (max t1 (max t2 t3)+1) k3 l3:=
 ⟨QD (Zn b.1 (Zn c.1 e.1)),Cd (Dt.mpr ⟨b.2.1,Dt.mpr ⟨c.2.1,e.2.1⟩⟩),wh2_ e.2.2.1 (wh_ c.2.2.1 (kl3 b.2.2.1)),le1 (B1 (B1 b.2.2.2.1 c.2.2.2.1) e.2.2.2.1),fun g=>no0 h.2.2.2.1 g,
  fun _=>bb2_ (bb_ (h.low b) c.2.2.2.2.1 c.2.2.2.2.2) e.2.2.2.2.1 e.2.2.2.2.2⟩
def TI (n:Nat) (k l:Int) (i s:Nat) (k' l':Int):Prop:=(s:Int)=l - 1 - l'∧k'+4*l'≤k+4*l - 3+i∧k+1≤k'∧ -(16*(n:Int) - 1) - 6*(i:Int)≤l'
theorem TI.nil (h:S n deep k l) (hn:1≤n):TI n k l 0 0 (k+1) (l - 1):=⟨(Int.sub_self _).symm,⋯,Int.le_refl _,by have:=h.2.2.2.1;omega⟩
theorem TI.pre (h:S n deep k l) (c:TI n k l i s k' l') (hi:i<3):PB n (deep - 1) k' l':=by
 have h3:=h.2.2.1;have h6:=h.2.2.2.2.2;have c2:=c.2.1;have c4:=c.2.2.2;exact ⟨h.1,B1 h.2.1 (le1 c.2.2.1),by clear c4;omega,by clear c2 h3;omega,Dm h6⟩
theorem TI.snoc (c:TI n k l i s k' l') (b:BB n k' l' s2 t2 k2 l2):TI n k l (i+1) (s+s2) k2 l2:=by
 have c2:=c.2.1;have c4:=c.2.2.2;have b3:=b.2.2.1;have b5:=b.2.2.2.2.1;have b6:=b.2.2.2.2.2;exact ⟨Zn c.1 b.1,by clear c4 b5 b6;omega,B1 c.2.2.1 b.2.2.2.1,by clear c2 b3;omega⟩
theorem TI.out (h:S n deep k l) (c:TI n k l 3 s k' l') (e:s1+(s2+s3)=s) (e1:t1≤n+2) (e2:t2≤n+2) (e3:t3≤n+2):BS (n+1) k l (s1+(s2+s3)+1) (max t1 (max t2 t3)+1) k' l':=by
 subst e;have c2:=c.2.1;have c4:=c.2.2.2;exact ⟨QD c.1,Cd (Dt.mpr ⟨e1,Dt.mpr ⟨e2,e3⟩⟩),by clear c4;omega,le1 c.2.2.1,fun g=>no0 h.2.2.2.1 g,fun _=>by clear c2;omega⟩
def WI (l0:Int) (d m s t:Nat) (k' l':Int):Prop:=d+m=6∧(s:Int)=l0 - l'∧t≤9∧0≤k'∧k'+4*l'≤160+d∧ -113≤l'
theorem WI.nil (h:0≤l) (h':l≤40):WI l 0 6 0 0 0 l:=⟨rfl,⋯,⋯,⋯,⋯,⋯⟩
theorem WI.pre (h:WI l i m s t k' l') (h0:deep≤7):PS 7 deep (k'+1) l':=by
 obtain ⟨h1,_,_,h4,h5,h6⟩:=h;exact ⟨h0,⋯,⋯,⋯,O0⟩
theorem WI.snoc (h:WI l i m s t k' l') (h0:0<l') (hi:i<6) (b:BS 7 (k'+1) l' s2 t2 k2 l2):WI l (i+1) (m - 1) (s+s2) (max t t2) k2 l2:=by
 obtain ⟨h1,h2,h3,h4,h5,_⟩:=h;obtain ⟨b1,b2,b3,b4,_,b6⟩:=b;exact ⟨by clear h2 h5 b1 b3;omega,Zn h2 b1,Dt.mpr ⟨h3,b2⟩,B1 h4 (le1 b4),by clear h1 h2 b1 b4;omega,b6 h0⟩
end
end Bud
namespace Tre
open PySem
def qY (x:Str):Bool:=decide (1≤x.length)&&decide (x.length≤8)&&x.cps.toList.all fun c=>decide (97≤c)&&decide (c≤122)
def Vv (i:Int):Bool:=decide (-1000000000000≤i)&&decide (i≤1000000000000)
def zh:PyData→Bool
 | .str x=>qY x
 | _=>false
def JS:PyData→Bool
 | .int i=>Vv i
 | _=>false
def JE (d:PyData) (most:Nat):Bool:=match d with
 | .tuple xs=>decide (xs.length≤most)
 | _=>false
def txt:PyData→Str
 | .str x=>x
 | _=>""
def areNames:PyData→Bool
 | .tuple xs=>decide (xs.length≤4)&&xs.all zh&&decide ((xs.map txt).Nodup)
 | _=>false
abbrev VR:List Str:=["+","-","*","<","="]
abbrev forms:List (Str×List Str):=[("main",["names","body"]),("number",["number"]),("name",["name"]),("two",["sign","term","term"]),("fun",["names","body"]),("loop",["names","body"]),("call",["term","terms"]),("step",["term","term"]),
 ("let",["name","term"]),("set",["name","term"]),("do",["term"]),("if",["term","body","body"]),("while",["term","body"]),("hand",["term"]),("back",["term"]),("fault",["word","term"]),("try",["body","name","name","body","body"])]
abbrev heads:List (Str×List Str):=[("program",["main"]),("term",["number","name","two","fun","loop","call","step"]),("statement",["let","set","do","if","while","hand","back","fault","try"])]
abbrev JC:List (Str×Str):=[("names","name"),("terms","term"),("body","statement")]
def qA (d:PyData) (sh:Str):Bool:=
 if sh=="number" then JS d else if sh=="name" then zh d else if sh=="word" then (match d with | .str x=>qY x&&x !="any" | _=>false)
 else if sh=="sign" then (match d with | .str x=>VR.any fun y=>y==x | _=>false) else if sh=="names" then areNames d else if sh=="terms" then JE d 4 else if sh=="body" then JE d 12 else true
def zC (ts:List PyData) (fs:List Str):Bool:=decide (ts.length=fs.length)&&(ts.zip fs).all fun p=>qA p.1 p.2
def qK (d:PyData) (sh:Str) (hands:Bool):Bool:=match d with
 | .tuple (.str h::ts)=>(((heads.lookup sh).getD []).any fun y=>y==h)&&!(h=="hand"&&!hands)&&zC ts ((forms.lookup h).getD [])
 | _=>false
def ql (t:PyData) (sh:Str):List (PyData×Str):=
 if sh=="term" then [(t,sh)] else if sh=="terms"||sh=="body" then (match t with | .tuple xs=>xs.map fun x=>(x,(JC.lookup sh).getD "") | _=>[]) else []
def zi:PyData→List (PyData×Str)
 | .tuple (.str h::ts)=>(ts.zip ((forms.lookup h).getD [])).flatMap fun p=>ql p.1 p.2
 | _=>[]
def headOf:PyData→Str
 | .tuple (.str h::_)=>h
 | _=>""
def j5 (d:PyData) (hands:Bool):Bool:=if headOf d=="fun" then false else hands||(headOf d=="main"||headOf d=="loop")
abbrev Lv:=List (PyData×Str×Bool)
def below (lv:Lv):Lv:=lv.flatMap fun p=>(zi p.1).map fun q=>(q.1,q.2,j5 p.1 p.2.2)
def WU:Nat→Nat→Lv→Bool
 | 0,_,lv=>lv.isEmpty
 | n+1,size,lv=>lv.isEmpty||(decide (size+lv.length≤300)&&(lv.all fun p=>qK p.1 p.2.1 p.2.2)&&WU n (size+lv.length) (below lv))
def zY (d:PyData):Bool:=WU 20 0 [(d,"program",false)]
mutual
def fit:PyData→Bool
 | .str x=>decide (x.length≤1000000)
 | .list xs=>j8 xs
 | .tuple xs=>j8 xs
 | .dict _=>false
 | _=>true
def j8:List PyData→Bool
 | []=>true
 | x::xs=>fit x&&j8 xs
end
theorem Js:∀ {xs:List PyData},j8 xs=true→∀ x∈xs,fit x=true
 | [],_,x,hx=>nomatch hx
 | y::r,h,x,hx=>by
  rw [j8,Ae] at h;rcases Ap.mp hx with rfl | hx
  ·exact h.1
  ·exact Js h.2 x hx
theorem qcu:∀ {xs:List PyData},(∀ x∈xs,fit x=true)→j8 xs=true
 | [],_=>rfl
 | y::r,h=>by
  rw [j8,Ae];exact ⟨h y Au,qcu fun x hx=>h x (Am _ hx)⟩
theorem Z3:∀ sh∈heads,∀ h∈sh.2,∃ fs,forms.lookup h=some fs∧fs.length≤5:=by
 intro sh hs h hh;have:∀ sh∈heads,∀ h∈sh.2,((forms.lookup h).any fun fs=>decide (fs.length≤5))=true:=∅;have q:=this sh hs h hh;cases e:forms.lookup h with
 | none=>rw [e] at q;cases q
 | some fs=>rw [e] at q;exact ⟨fs,rfl,Ay q⟩
theorem YY {sh h:Str} (q:(((heads.lookup sh).getD []).any fun y=>y==h)=true):∃ l,heads.lookup sh=some l∧h∈l∧∃ fs,forms.lookup h=some fs∧fs.length≤5:=by
 cases e:heads.lookup sh with
 | none=>rw [e] at q;cases q
 | some l=>
  rw [e] at q;obtain ⟨y,hy,hyh⟩:=De.mp q;cases Ax.mp hyh;exact ⟨l,rfl,hy,Z3 (sh,l) (Bk e) _ hy⟩
theorem qV {d:PyData} {sh:Str} {hands:Bool} (h:qK d sh hands=true):
  ∃ hd ts fs l,d= .tuple (.str hd::ts)∧heads.lookup sh=some l∧hd∈l∧forms.lookup hd=some fs∧fs.length≤5∧ts.length=fs.length∧(∀ p∈ts.zip fs,qA p.1 p.2=true)∧(hd=="hand"&&!hands)=false:=by
 cases d with
 | tuple xs=>
  cases xs with
  | nil=>cases h
  | cons x ts=>
   cases x with
   | str hd=>
    simp only [qK,zC,Ae,D4,Dn] at h;obtain ⟨⟨h1,h2⟩,h3,h4⟩:=h;obtain ⟨l,e1,e2,fs,e3,e4⟩:=YY h1;rw [e3] at h3 h4;exact ⟨hd,ts,fs,l,rfl,e1,e2,e3,e4,h3,fun p hp=>A3.mp h4 p hp,h2⟩
   | _=>cases h
 | _=>cases h
theorem yu {t:PyData} {sh:Str} (h:qA t sh=true):(ql t sh).length≤12:=by
 unfold ql;split
 ·simp
 ·split
  ·rename_i h1 h2;cases t with
   | tuple xs=>
    rw [Ab];rw [B4,Ax,Ax] at h2;rcases h2 with rfl | rfl
    ·have:JE (.tuple xs) 4=true:=h;have:=Ay this;omega
    ·have:JE (.tuple xs) 12=true:=h;exact Ay this
   | _=>simp
  ·simp
theorem XR {α β:Type} (f:α→List β) (m:Nat):∀ l:List α,(∀ x∈l,(f x).length≤m)→(l.flatMap f).length≤m*l.length
 | [],_=>by simp
 | x::r,h=>by
  rw [Cz,Ac,Aj,Nat.mul_succ];have h1:=h x Au;have h2:=XR f m r fun y hy=>h y (Am _ hy);omega
theorem VY {d:PyData} {sh:Str} {hands:Bool} (h:qK d sh hands=true):(zi d).length≤60:=by
 obtain ⟨hd,ts,fs,l,rfl,_,_,e,hf,hl,hs,_⟩:=qV h;show ((ts.zip ((forms.lookup hd).getD [])).flatMap _).length≤60;rw [e];show ((ts.zip fs).flatMap _).length≤60;have:=XR (fun p:PyData×Str=>ql p.1 p.2) 12 (ts.zip fs) fun p hp=>yu (hs p hp);rw [Ef] at this;omega
theorem Qg {lv:Lv} (h:∀ p∈lv,qK p.1 p.2.1 p.2.2=true):(below lv).length≤60*lv.length:=
 XR _ 60 lv fun p hp=>by rw [Ab];exact VY (h p hp)
theorem XH {t e:PyData} {sh u:Str} (h:(e,u)∈ql t sh):u="term"∨u="statement":=by
 unfold ql at h;split at h
 ·rename_i h1;rw [Az] at h;cases h;exact .inl (Ax.mp h1)
 ·split at h
  ·rename_i h2;cases t with
   | tuple xs=>
    obtain ⟨x,_,ex⟩:=By.mp h;rw [B4,Ax,Ax] at h2;cases ex;rcases h2 with rfl | rfl
    ·exact .inl rfl
    ·exact .inr rfl
   | _=>cases h
  ·cases h
theorem yt {d e:PyData} {u:Str} (h:(e,u)∈zi d):u="term"∨u="statement":=by
 unfold zi at h;split at h
 ·obtain ⟨p,_,hp⟩:=C2.mp h;exact XH hp
 ·cases h
theorem ZX {t e:PyData} {sh u:Str} (ft:fit t=true) (h:(e,u)∈ql t sh):fit e=true:=by
 unfold ql at h;split at h
 ·rw [Az] at h;cases h;exact ft
 ·split at h
  ·cases t with
   | tuple xs=>
    obtain ⟨x,hx,ex⟩:=By.mp h;rw [fit] at ft;have q:=Js ft x hx;cases ex;exact q
   | _=>cases h
  ·cases h
theorem qcq {d e:PyData} {u:Str} (f:fit d=true) (h:(e,u)∈zi d):fit e=true:=by
 unfold zi at h;split at h
 ·rename_i hd ts;obtain ⟨p,hz,hp⟩:=C2.mp h;rw [fit,j8,Ae] at f;exact ZX (Js f.2 p.1 (Dj hz).1) hp
 ·cases h
theorem jz (d:PyData):qA d "number"=JS d:=by
 unfold qA;rw [if_pos (show (((("number":Str)=="number")=true)) from ∅)]
theorem zS (d:PyData):qA d "name"=zh d:=by
 unfold qA;rw [if_neg (show ¬ (((("name":Str)=="number")=true)) from ∅)];rw [if_pos (show (((("name":Str)=="name")=true)) from ∅)]
theorem Jj (d:PyData):qA d "word"=(match d with | .str x=>qY x&&x !="any" | _=>false):=by
 unfold qA;rw [if_neg (show ¬ (((("word":Str)=="number")=true)) from ∅)];rw [if_neg (show ¬ (((("word":Str)=="name")=true)) from ∅)];rw [if_pos (show (((("word":Str)=="word")=true)) from ∅)]
theorem Jk (d:PyData):qA d "sign"=(match d with | .str x=>VR.any fun y=>y==x | _=>false):=by
 unfold qA;rw [if_neg (show ¬ (((("sign":Str)=="number")=true)) from ∅)];rw [if_neg (show ¬ (((("sign":Str)=="name")=true)) from ∅)];rw [if_neg (show ¬ (((("sign":Str)=="word")=true)) from ∅)];rw [if_pos (show (((("sign":Str)=="sign")=true)) from ∅)]
theorem ju (d:PyData):qA d "names"=areNames d:=by
 unfold qA;rw [if_neg (show ¬ (((("names":Str)=="number")=true)) from ∅)];rw [if_neg (show ¬ (((("names":Str)=="name")=true)) from ∅)];rw [if_neg (show ¬ (((("names":Str)=="word")=true)) from ∅)];rw [if_neg (show ¬ (((("names":Str)=="sign")=true)) from ∅)];rw [if_pos (show (((("names":Str)=="names")=true)) from ∅)]
theorem jt (d:PyData):qA d "terms"=JE d 4:=by
 unfold qA;rw [if_neg (show ¬ (((("terms":Str)=="number")=true)) from ∅)];rw [if_neg (show ¬ (((("terms":Str)=="name")=true)) from ∅)];rw [if_neg (show ¬ (((("terms":Str)=="word")=true)) from ∅)];rw [if_neg (show ¬ (((("terms":Str)=="sign")=true)) from ∅)];rw [if_neg (show ¬ (((("terms":Str)=="names")=true)) from ∅)];rw [if_pos (show (((("terms":Str)=="terms")=true)) from ∅)]
theorem jc (d:PyData):qA d "body"=JE d 12:=by
 unfold qA;rw [if_neg (show ¬ (((("body":Str)=="number")=true)) from ∅)];rw [if_neg (show ¬ (((("body":Str)=="name")=true)) from ∅)];rw [if_neg (show ¬ (((("body":Str)=="word")=true)) from ∅)];rw [if_neg (show ¬ (((("body":Str)=="sign")=true)) from ∅)];rw [if_neg (show ¬ (((("body":Str)=="names")=true)) from ∅)];rw [if_neg (show ¬ (((("body":Str)=="terms")=true)) from ∅)];rw [if_pos (show (((("body":Str)=="body")=true)) from ∅)]
theorem W3 (d:PyData) {sh:Str} (h0:(sh=="number")=false) (h1:(sh=="name")=false) (h2:(sh=="word")=false) (h3:(sh=="sign")=false) (h4:(sh=="names")=false) (h5:(sh=="terms")=false) (h6:(sh=="body")=false):qA d sh=true:=by
 unfold qA;rw [if_neg (by rw [h0];exact Ag)]
 rw [if_neg (by rw [h1];exact Ag)]
 rw [if_neg (by rw [h2];exact Ag)]
 rw [if_neg (by rw [h3];exact Ag)]
 rw [if_neg (by rw [h4];exact Ag)]
 rw [if_neg (by rw [h5];exact Ag)]
 rw [if_neg (by rw [h6];exact Ag)]
def zm (d:PyData):List PyData:=(zi d).map (·.1)
mutual
inductive Tr:PyData→Nat→Nat→Prop
 | mk {d:PyData} {sh:Str} {hands:Bool} {s t:Nat}:qK d sh hands=true→Trl (zm d) s t→Tr d (s+1) (t+1)
inductive Trl:List PyData→Nat→Nat→Prop
 | nil:Trl [] 0 0
 | cons {d:PyData} {ds:List PyData} {s t s' t':Nat}:Tr d s t→Trl ds s' t'→Trl (d::ds) (s+s') (max t t')
end
theorem Trl.append:∀ {a b:List PyData} {s t s' t':Nat},Trl a s t→Trl b s' t'→Trl (a++b) (s+s') (max t t'):=by
 intro a
 induction a with
 | nil=>
  intro b s t s' t' h h';cases h;simpa using h'
 | cons d r ih=>
  intro b s t s' t' h h';cases h with
  | cons h1 h2=>
   have:=Trl.cons h1 (ih h2 h');rw [C5,E7,Nat.max_assoc];exact this
theorem qa0 (a:Nat):∀ b:Nat,max a (b - 1)=max (a+1) b - 1
 | 0=>by simp
 | b+1=>by
  rw [Nat.add_max_add_right];rfl
theorem Trl.lower:∀ {ds:List PyData} {s t:Nat},Trl ds s t→∃ s',Trl (ds.flatMap zm) s' (t - 1)∧s=ds.length+s':=by
 intro ds
 induction ds with
 | nil=>
  intro s t h;cases h;exact ⟨0,.nil,rfl⟩
 | cons d r ih=>
  intro s t h;cases h with
  | @cons _ _ s1 t1 s2 t2 h1 h2=>
   cases h1 with
   | @mk _ sh hands s0 t0 hf hk=>
    obtain ⟨s',h3,e⟩:=ih h2;refine ⟨s0+s',?_,?_⟩
    ·rw [Cz];have e2:max t0 (t2 - 1)=max (t0+1) t2 - 1:=qa0 _ _;rw [← e2];exact hk.append h3
    ·rw [Aj];omega
theorem Trl.zero {ds:List PyData} {s:Nat} (h:Trl ds s 0):ds=[]:=by
 cases ds with
 | nil=>rfl
 | cons d r=>
  generalize e:0=n at h;cases h with
  | cons h1 h2=>
   cases h1;omega
theorem Trl.forms:∀ {ds:List PyData} {s t:Nat},Trl ds s t→∀ d∈ds,∃ sh hands,qK d sh hands=true:=by
 intro ds
 induction ds with
 | nil=>intro s t _ d hd;cases hd
 | cons e r ih=>
  intro s t h d hd;cases h with
  | cons h1 h2=>
   rcases Ap.mp hd with rfl | hd
   ·cases h1 with
    | mk hf _=>exact ⟨_,_,hf⟩
   ·exact ih h2 d hd
theorem Trl.few {ds:List PyData} {s t:Nat} (h:Trl ds s t):ds.length≤s:=by
 obtain ⟨s',_,e⟩:=h.lower;omega
mutual
theorem Tr.deep:∀ {d:PyData} {s t:Nat},Tr d s t→t≤s
 | _,_,_,.mk _ h=>Cd (Trl.deep h)
theorem Trl.deep:∀ {ds:List PyData} {s t:Nat},Trl ds s t→t≤s
 | _,_,_,.nil=>Ah _
 | _,_,_,.cons h1 h2=>by
  have a:=Tr.deep h1;have b:=Trl.deep h2;omega
end
theorem qa2 {d:PyData} {sh:Str} {hands:Bool} (h:qK d sh hands=true):(zm d).length≤60:=by
 unfold zm;rw [Ab];exact VY h
mutual
inductive Pt:PyData→Str→Bool→Nat→Nat→Prop
 | mk {d:PyData} {sh:Str} {hands:Bool} {s t:Nat}:qK d sh hands=true→Ptl (zi d) (j5 d hands) s t→Pt d sh hands (s+1) (t+1)
inductive Ptl:List (PyData×Str)→Bool→Nat→Nat→Prop
 | nil {hands:Bool}:Ptl [] hands 0 0
 | cons {d:PyData} {sh:Str} {r:List (PyData×Str)} {hands:Bool} {s t s' t':Nat}:Pt d sh hands s t→Ptl r hands s' t'→Ptl ((d,sh)::r) hands (s+s') (max t t')
end
theorem Ptl.append:∀ {a b:List (PyData×Str)} {hands:Bool} {s t s' t':Nat},Ptl a hands s t→Ptl b hands s' t'→Ptl (a++b) hands (s+s') (max t t'):=by
 intro a
 induction a with
 | nil=>
  intro b hands s t s' t' h h';cases h;simpa using h'
 | cons d r ih=>
  intro b hands s t s' t' h h';cases h with
  | cons h1 h2=>
   have:=Ptl.cons h1 (ih h2 h');rw [C5,E7,Nat.max_assoc];exact this
mutual
theorem Pt.tr:∀ {d:PyData} {sh:Str} {hands:Bool} {s t:Nat},Pt d sh hands s t→Tr d s t
 | _,_,_,_,_,.mk hf h=> .mk hf (Ptl.tr h)
theorem Ptl.tr:∀ {l:List (PyData×Str)} {hands:Bool} {s t:Nat},Ptl l hands s t→Trl (l.map (·.1)) s t
 | _,_,_,_,.nil=> .nil
 | _,_,_,_,.cons h1 h2=> .cons (Pt.tr h1) (Ptl.tr h2)
end
inductive Lvl:Lv→Nat→Nat→Prop
 | nil:Lvl [] 0 0
 | cons {p:PyData×Str×Bool} {r:Lv} {s t s' t':Nat}:Pt p.1 p.2.1 p.2.2 s t→Lvl r s' t'→Lvl (p::r) (s+s') (max t t')
theorem Lvl.append:∀ {a b:Lv} {s t s' t':Nat},Lvl a s t→Lvl b s' t'→Lvl (a++b) (s+s') (max t t')
 | _,_,_,_,_,_,.nil,h=>by simpa using h
 | _,_,_,_,_,_,.cons h1 h2,h=>by
  have:=Lvl.cons h1 (Lvl.append h2 h);rw [C5,E7,Nat.max_assoc];exact this
theorem qjc:∀ {l:List (PyData×Str)} {hands:Bool} {s t:Nat},Ptl l hands s t→Lvl (l.map fun z=>(z.1,z.2,hands)) s t:=by
 intro l
 induction l with
 | nil=>intro hands s t h;cases h;exact .nil
 | cons z r ih=>
  intro hands s t h;cases h with
  | cons h1 h2=>exact .cons h1 (ih h2)
theorem Lvl.lower:∀ {lv:Lv} {s t:Nat},Lvl lv s t→∃ s',Lvl (Tre.below lv) s' (t - 1)∧s=lv.length+s':=by
 intro lv
 induction lv with
 | nil=>intro s t h;cases h;exact ⟨0,.nil,rfl⟩
 | cons p r ih=>
  intro s t h;cases h with
  | @cons _ _ s1 t1 s2 t2 h1 h2=>
   obtain ⟨s',h3,e⟩:=ih h2;generalize e1:p.1=d at h1;generalize e2:p.2.1=sh at h1;generalize e3:p.2.2=hands at h1;cases h1 with
   | @mk _ _ _ s0 t0 hf hk=>
    refine ⟨s0+s',?_,?_⟩
    ·have e4:max t0 (t2 - 1)=max (t0+1) t2 - 1:=qa0 _ _;have e5:Tre.below (p::r)=((zi d).map fun z=>(z.1,z.2,j5 d hands))++Tre.below r:=by
      unfold Tre.below;rw [Cz,e1,e3]
     rw [e5,← e4];exact (qjc hk).append h3
    ·rw [Aj];omega
theorem Lvl.forms:∀ {lv:Lv} {s t:Nat},Lvl lv s t→(lv.all fun p=>qK p.1 p.2.1 p.2.2)=true:=by
 intro lv
 induction lv with
 | nil=>intro s t _;rfl
 | cons p r ih=>
  intro s t h;cases h with
  | cons h1 h2=>
   rw [E5,ih h2,Bool.and_true];cases h1 with
   | mk hf _=>exact hf
theorem Lvl.zero {lv:Lv} {s:Nat} (h:Lvl lv s 0):lv=[]:=by
 cases lv with
 | nil=>rfl
 | cons p r=>
  generalize e:0=n at h;cases h with
  | cons h1 h2=>
   cases h1;omega
theorem qad:∀ (n sz:Nat) (lv:Lv) (s t:Nat),Lvl lv s t→t≤n→sz+s≤300→WU n sz lv=true
 | 0,sz,lv,s,t,h,hn,hz=>by
  have:t=0:=⋯;subst this;rw [h.zero];rfl
 | n+1,sz,lv,s,t,h,hn,hz=>by
  obtain ⟨s',h2,e⟩:=h.lower;rw [WU,qad n (sz+lv.length) (Tre.below lv) s' (t - 1) h2 ⋯ ⋯,h.forms,Ak ⋯];simp
theorem XG {d:PyData} {s t:Nat} (h:Pt d "program" false s t) (ht:t≤20) (hs:s≤300):zY d=true:=
 qad 20 0 _ s t (by simpa using Lvl.cons (p:=(d,"program",false)) h .nil) ht ⋯
theorem jr {h sh:Str} {l fs:List Str} {ts:List PyData} {hands:Bool} (e1:heads.lookup sh=some l) (e2:(l.any fun y=>y==h)=true) (e3:forms.lookup h=some fs) (e4:(h=="hand"&&!hands)=false) (e5:zC ts fs=true):qK (.tuple (.str h::ts)) sh hands=true:=by
 simp only [qK,e1,e3,Option.getD_some,e2,e4,e5,Bool.not_false,Bool.and_true]
theorem qW {h:Str} {fs:List Str} {ts:List PyData} (e:forms.lookup h=some fs):zi (.tuple (.str h::ts))=(ts.zip fs).flatMap fun p=>ql p.1 p.2:=by
 show (ts.zip ((forms.lookup h).getD [])).flatMap _=_;rw [e];rfl
theorem zU (t:PyData):ql t "term"=[(t,("term":Str))]:=by
 unfold ql;rw [if_pos ∅]
theorem zI (xs:List PyData):ql (.tuple xs) "body"=xs.map fun x=>(x,("statement":Str)):=by
 unfold ql;rw [if_neg ∅,if_pos ∅];have e:(JC.lookup ("body":Str)).getD ""=("statement":Str):=∅;rw [e]
theorem V0 (xs:List PyData):ql (.tuple xs) "terms"=xs.map fun x=>(x,("term":Str)):=by
 unfold ql;rw [if_neg ∅,if_pos ∅];have e:(JC.lookup ("terms":Str)).getD ""=("term":Str):=∅;rw [e]
theorem zL {t:PyData} {sh:Str} (h:(sh=="term"||(sh=="terms"||sh=="body"))=false):ql t sh=[]:=by
 rw [Ep] at h;unfold ql;rw [if_neg (by rw [h.1];exact Ag),if_neg (by rw [h.2];exact Ag)]
theorem jQ (t:PyData):qA t "term"=true:=W3 t ∅ ∅ ∅ ∅ ∅ ∅ ∅
structure Bd (xs:List PyData) (hands:Bool) (s t:Nat):Prop where
 few:xs.length≤12
 all:Ptl (xs.map fun x=>(x,("statement":Str))) hands s t
theorem JV {xs:List PyData} (h:xs.length≤12):qA (.tuple xs) "body"=true:=by
 rw [jc];exact Ak h
theorem qd8 {xs:List PyData} (h:xs.length≤4):qA (.tuple xs) "terms"=true:=by
 rw [jt];exact Ak h
theorem jx {h:Str} {ts:List PyData} {hands:Bool} (e:(h=="fun"||(h=="main"||h=="loop"))=false):j5 (.tuple (.str h::ts)) hands=hands:=by
 rw [Ep] at e;show (if h=="fun" then false else hands||(h=="main"||h=="loop"))=hands
 rw [if_neg (by rw [e.1];exact Ag),e.2,Ed]
theorem ok1 {t:PyData} {f:Str} (h:qA t f=true):zC [t] [f]=true:=by simp [zC,h]
theorem ok2 {t u:PyData} {f g:Str} (h:qA t f=true) (h':qA u g=true):zC [t,u] [f,g]=true:=by simp [zC,h,h']
theorem ok3 {t u v:PyData} {f g k:Str} (h:qA t f=true) (h':qA u g=true) (h2:qA v k=true):zC [t,u,v] [f,g,k]=true:=by simp [zC,h,h',h2]
theorem jG {d:PyData} {sh:Str} {hands:Bool} {s t:Nat} (h:Pt d sh hands s t):Ptl [(d,sh)] hands s t:=by simpa using Ptl.cons h .nil
theorem qb9 {i:Int} {hands:Bool} (h:Vv i=true):Pt (.tuple [.str "number",.int i]) "term" hands 1 1:=by
 refine .mk (jr (l:=["number","name","two","fun","loop","call","step"]) (fs:=["number"]) ∅ ∅ ∅ (by cases hands <;> decide+kernel) (ok1 ((jz _).trans h))) (s:=0) (t:=0) ?_
 rw [qW (fs:=["number"]) ∅];show Ptl (ql _ _++[]) _ _ _;rw [zL (sh:="number") ∅];exact .nil
theorem qgj {x:Str} {hands:Bool} (h:qY x=true):Pt (.tuple [.str "name",.str x]) "term" hands 1 1:=by
 refine .mk (jr (l:=["number","name","two","fun","loop","call","step"]) (fs:=["name"]) ∅ ∅ ∅ (by cases hands <;> decide+kernel) (ok1 ((zS _).trans h))) (s:=0) (t:=0) ?_
 rw [qW (fs:=["name"]) ∅];show Ptl (ql _ _++[]) _ _ _;rw [zL (sh:="name") ∅];exact .nil
theorem qii {g:Str} {a b:PyData} {hands:Bool} {s t s' t':Nat} (h:(VR.any fun y=>y==g)=true) (ha:Pt a "term" hands s t) (hb:Pt b "term" hands s' t'):Pt (.tuple [.str "two",.str g,a,b]) "term" hands (s+s'+1) (max t t'+1):=by
 refine .mk (jr (l:=["number","name","two","fun","loop","call","step"]) (fs:=["sign","term","term"]) ∅ ∅ ∅ (by cases hands <;> decide+kernel) (ok3 ((Jk _).trans h) (jQ _) (jQ _))) ?_
 rw [qW (fs:=["sign","term","term"]) ∅,jx ∅];show Ptl (ql _ _++(ql _ _++(ql _ _++[]))) _ _ _;rw [zL (sh:="sign") ∅,zU,zU];exact (jG ha).append (jG hb)
theorem qgi {a b:PyData} {hands:Bool} {s t s' t':Nat} (ha:Pt a "term" hands s t) (hb:Pt b "term" hands s' t'):Pt (.tuple [.str "step",a,b]) "term" hands (s+s'+1) (max t t'+1):=by
 refine .mk (jr (l:=["number","name","two","fun","loop","call","step"]) (fs:=["term","term"]) ∅ ∅ ∅ (by cases hands <;> decide+kernel) (ok2 (jQ _) (jQ _))) ?_
 rw [qW (fs:=["term","term"]) ∅,jx ∅];show Ptl (ql _ _++(ql _ _++[])) _ _ _;rw [zU,zU];exact (jG ha).append (jG hb)
theorem qgm {a:PyData} {xs:List PyData} {hands:Bool} {s t s' t':Nat} (ha:Pt a "term" hands s t) (hl:xs.length≤4) (hb:Ptl (xs.map fun x=>(x,("term":Str))) hands s' t'):Pt (.tuple [.str "call",a,.tuple xs]) "term" hands (s+s'+1) (max t t'+1):=by
 refine .mk (jr (l:=["number","name","two","fun","loop","call","step"]) (fs:=["term","terms"]) ∅ ∅ ∅ (by cases hands <;> decide+kernel) (ok2 (jQ _) (qd8 hl))) ?_
 rw [qW (fs:=["term","terms"]) ∅,jx ∅];show Ptl (ql _ _++(ql _ _++[])) _ _ _;rw [zU,V0,A6];exact (jG ha).append hb
theorem yc {h sh:Str} {l:List Str} {ns xs:List PyData} {hands hi:Bool} {s t:Nat} (e1:heads.lookup sh=some l) (e2:(l.any fun y=>y==h)=true) (e3:forms.lookup h=some (["names","body"]:List Str)) (e4:(h=="hand"&&!hands)=false) (hn:areNames (.tuple ns)=true) (hw:∀ ts,j5 (.tuple (.str h::ts)) hands=hi) (hb:Bd xs hi s t):
  Pt (.tuple [.str h,.tuple ns,.tuple xs]) sh hands (s+1) (t+1):=by
 refine .mk (jr e1 e2 e3 e4 (ok2 ((ju _).trans hn) (JV hb.few))) ?_;rw [qW e3,hw];show Ptl (ql _ _++(ql _ _++[])) _ _ _;rw [zL (sh:="names") ∅,zI,Bw,A6];exact hb.all
theorem qim {ns xs:List PyData} {hands:Bool} {s t:Nat} (hn:areNames (.tuple ns)=true) (hb:Bd xs false s t):Pt (.tuple [.str "fun",.tuple ns,.tuple xs]) "term" hands (s+1) (t+1):=
 yc (l:=["number","name","two","fun","loop","call","step"]) ∅ ∅ ∅ (by cases hands <;> decide+kernel) hn (fun ts=>by
  show (if (("fun":Str)=="fun")=true then false else _)=false
  rw [if_pos ∅]) hb
theorem qgl {ns xs:List PyData} {hands:Bool} {s t:Nat} (hn:areNames (.tuple ns)=true) (hb:Bd xs true s t):Pt (.tuple [.str "loop",.tuple ns,.tuple xs]) "term" hands (s+1) (t+1):=
 yc (l:=["number","name","two","fun","loop","call","step"]) ∅ ∅ ∅ (by cases hands <;> decide+kernel) hn (fun ts=>by
  show (if (("loop":Str)=="fun")=true then false else hands||((("loop":Str)=="main")||(("loop":Str)=="loop")))=true
  rw [if_neg ∅,show ((("loop":Str)=="main")||(("loop":Str)=="loop"))=true from ∅,E8]) hb
theorem qgk {ns xs:List PyData} {s t:Nat} (hn:areNames (.tuple ns)=true) (hb:Bd xs true s t):Pt (.tuple [.str "main",.tuple ns,.tuple xs]) "program" false (s+1) (t+1):=
 yc (l:=["main"]) ∅ ∅ ∅ ∅ hn (fun ts=>by
  show (if (("main":Str)=="fun")=true then false else false||((("main":Str)=="main")||(("main":Str)=="loop")))=true
  rw [if_neg ∅,show ((("main":Str)=="main")||(("main":Str)=="loop"))=true from ∅,E8]) hb
abbrev stm:List Str:=["let","set","do","if","while","hand","back","fault","try"]
theorem qik {h x:Str} {a:PyData} {hands:Bool} {s t:Nat} (hh:h="let"∨h="set") (hx:qY x=true) (ha:Pt a "term" hands s t):Pt (.tuple [.str h,.str x,a]) "statement" hands (s+1) (t+1):=by
 have e3:forms.lookup h=some (["name","term"]:List Str):=by rcases hh with rfl | rfl <;> decide+kernel
 refine .mk (jr (l:=stm) (fs:=["name","term"]) ∅ (by rcases hh with rfl | rfl <;> decide+kernel) e3 (by rcases hh with rfl | rfl <;> cases hands <;> decide+kernel) (ok2 ((zS _).trans hx) (jQ _))) ?_
 rw [qW e3,jx (by rcases hh with rfl | rfl <;> decide+kernel)]
 show Ptl (ql _ _++(ql _ _++[])) _ _ _;rw [zL (sh:="name") ∅,zU];exact jG ha
theorem qeg {x:Str} {a:PyData} {hands:Bool} {s t:Nat} (hx:(qY x&&x !="any")=true) (ha:Pt a "term" hands s t):Pt (.tuple [.str "fault",.str x,a]) "statement" hands (s+1) (t+1):=by
 refine .mk (jr (l:=stm) (fs:=["word","term"]) ∅ ∅ ∅ (by cases hands <;> decide+kernel) (ok2 ((Jj _).trans hx) (jQ _))) ?_
 rw [qW (fs:=["word","term"]) ∅,jx ∅];show Ptl (ql _ _++(ql _ _++[])) _ _ _;rw [zL (sh:="word") ∅,zU];exact jG ha
theorem qkq {h:Str} {a:PyData} {hands:Bool} {s t:Nat} (hh:h="do"∨h="back"∨(h="hand"∧hands=true)) (ha:Pt a "term" hands s t):Pt (.tuple [.str h,a]) "statement" hands (s+1) (t+1):=by
 have e3:forms.lookup h=some (["term"]:List Str):=by rcases hh with rfl | rfl | ⟨rfl,_⟩ <;> decide+kernel
 refine .mk (jr (l:=stm) (fs:=["term"]) ∅ (by rcases hh with rfl | rfl | ⟨rfl,_⟩ <;> decide+kernel) e3 (by rcases hh with rfl | rfl | ⟨rfl,rfl⟩ <;> first | decide+kernel | (cases hands <;> decide+kernel)) (ok1 (jQ _))) ?_
 rw [qW e3,jx (by rcases hh with rfl | rfl | ⟨rfl,_⟩ <;> decide+kernel)]
 show Ptl (ql _ _++[]) _ _ _;rw [zU];exact jG ha
theorem qee {a:PyData} {xs:List PyData} {hands:Bool} {s t s' t':Nat} (ha:Pt a "term" hands s t) (hb:Bd xs hands s' t'):Pt (.tuple [.str "while",a,.tuple xs]) "statement" hands (s+s'+1) (max t t'+1):=by
 refine .mk (jr (l:=stm) (fs:=["term","body"]) ∅ ∅ ∅ (by cases hands <;> decide+kernel) (ok2 (jQ _) (JV hb.few))) ?_
 rw [qW (fs:=["term","body"]) ∅,jx ∅];show Ptl (ql _ _++(ql _ _++[])) _ _ _;rw [zU,zI,A6];exact (jG ha).append hb.all
theorem qkp {a:PyData} {xs ys:List PyData} {hands:Bool} {s t s' t' s2 t2:Nat} (ha:Pt a "term" hands s t) (hb:Bd xs hands s' t') (hc:Bd ys hands s2 t2):Pt (.tuple [.str "if",a,.tuple xs,.tuple ys]) "statement" hands (s+(s'+s2)+1) (max t (max t' t2)+1):=by
 refine .mk (jr (l:=stm) (fs:=["term","body","body"]) ∅ ∅ ∅ (by cases hands <;> decide+kernel) (ok3 (jQ _) (JV hb.few) (JV hc.few))) ?_
 rw [qW (fs:=["term","body","body"]) ∅,jx ∅];show Ptl (ql _ _++(ql _ _++(ql _ _++[]))) _ _ _;rw [zU,zI,zI,A6];exact (jG ha).append (hb.all.append hc.all)
theorem qij {x y:Str} {xs ys zs:List PyData} {hands:Bool} {s t s' t' s2 t2:Nat} (hx:qY x=true) (hy:qY y=true) (ha:Bd xs hands s t) (hb:Bd ys hands s' t') (hc:Bd zs hands s2 t2):
  Pt (.tuple [.str "try",.tuple xs,.str x,.str y,.tuple ys,.tuple zs]) "statement" hands (s+(s'+s2)+1) (max t (max t' t2)+1):=by
 have sx:qA (.str x) "name"=true:=(zS _).trans hx;have sy:qA (.str y) "name"=true:=(zS _).trans hy;refine .mk (jr (l:=stm) (fs:=["body","name","name","body","body"]) ∅ ∅ ∅ (by cases hands <;> decide+kernel) (by simp [zC,JV ha.few,JV hb.few,JV hc.few,sx,sy])) ?_
 rw [qW (fs:=["body","name","name","body","body"]) ∅,jx ∅];show Ptl (ql _ _++(ql _ _++(ql _ _++(ql _ _++(ql _ _++[]))))) _ _ _;rw [zI,zL (sh:="name") ∅,zL (sh:="name") ∅,zI,zI,A6,Bw,Bw];exact ha.all.append (hb.all.append hc.all)
mutual
def noL:PyData→Bool
 | .list _=>false
 | .dict _=>false
 | .tuple xs=>zO xs
 | .none=>true
 | .bool _=>true
 | .int _=>true
 | .str _=>true
def zO:List PyData→Bool
 | []=>true
 | x::r=>noL x&&zO r
end
structure Gd (n:Nat) (d:PyData):Prop where
 nol:noL d=true
 lay:d.canLay0=true
 dep:d.depth≤n
theorem Gd.mono {n m:Nat} {d:PyData} (h:Gd n d) (hm:n≤m):Gd m d:=⟨h.nol,h.lay,Av h.dep hm⟩
theorem vC {x:Str} {n:Nat} (h:PyData.strOk x=true):Gd n (.str x):=⟨rfl,h,Bm _⟩
theorem XO {i:Int} {n:Nat}:Gd n (.int i):=⟨rfl,rfl,Bm _⟩
theorem wv {n:Nat}:∀ {xs:List PyData},(∀ x∈xs,Gd n x)→zO xs=true∧PyData.canLayAll0 xs=true∧PyData.depthAll xs≤n
 | [],_=>⟨rfl,rfl,Bm _⟩
 | x::r,h=>by
  obtain ⟨h1,h2,h3⟩:=wv fun y hy=>h y (Am _ hy);have hx:=h x Au;refine ⟨?_,?_,?_⟩
  ·rw [zO,hx.nol,h1];rfl
  ·rw [PyData.canLayAll0,hx.lay,h2];rfl
  ·rw [PyData.depthAll];exact Dt.mpr ⟨hx.dep,h3⟩
theorem VA {n:Nat} {xs:List PyData} (h:∀ x∈xs,Gd n x):Gd (n+1) (.tuple xs):=by
 obtain ⟨h1,h2,h3⟩:=wv h;exact ⟨by rw [noL];exact h1,by rw [PyData.canLay0];exact h2,by rw [PyData.depth];exact Cd h3⟩
theorem vS {x:Str} (h:qY x=true):PyData.strOk x=true:=by
 unfold qY at h;rw [Ae] at h;unfold PyData.strOk;rw [← Array.all_toList,A3];intro c hc;have q:=A3.mp h.2 c hc;rw [Ae] at q;have:=Ay q.2;exact Ak ⋯
abbrev JU:List Str:=["number","name","word","sign","names","terms","body","term"]
theorem qaz {t:PyData} {n:Nat} (h:zh t=true):Gd n t:=by
 cases t with
 | str x=>exact vC (vS h)
 | _=>cases h
theorem qk9 {t:PyData} {f:Str} {n:Nat} (hs:qA t f=true) (hf:f∈JU) (hk:∀ z∈ql t f,Gd n z.1):Gd (n+1) t:=by
 simp only [JU,Ap,Bg,or_false] at hf;rcases hf with rfl | rfl | rfl | rfl | rfl | rfl | rfl | rfl
 ·rw [jz] at hs;cases t with
  | int i=>exact XO
  | _=>cases hs
 ·rw [zS] at hs;exact qaz hs
 ·rw [Jj] at hs;cases t with
  | str x=>
   have q:(qY x&&x !="any")=true:=hs;rw [Ae] at q;exact vC (vS q.1)
  | _=>cases hs
 ·rw [Jk] at hs;cases t with
  | str x=>
   have q:(VR.any fun y=>y==x)=true:=hs;obtain ⟨y,hy,e⟩:=De.mp q;cases Ax.mp e;refine vC ?_;have:(VR.all fun y=>PyData.strOk y)=true:=∅;exact A3.mp this _ hy
  | _=>cases hs
 ·rw [ju] at hs;cases t with
  | tuple xs=>
   simp only [areNames,Ae] at hs;exact VA fun x hx=>qaz (A3.mp hs.1.2 x hx)
  | _=>cases hs
 ·rw [jt] at hs;cases t with
  | tuple xs=>
   rw [V0] at hk;exact VA fun x hx=>hk (x,"term") (Ci hx)
  | _=>cases hs
 ·rw [jc] at hs;cases t with
  | tuple xs=>
   rw [zI] at hk;exact VA fun x hx=>hk (x,"statement") (Ci hx)
  | _=>cases hs
 ·rw [zU] at hk;exact (hk (t,"term") Au).mono (Ds _)
theorem vD:∀ p∈forms,PyData.strOk p.1=true∧∀ f∈p.2,f∈JU:=by
 have h:(forms.all fun p=>PyData.strOk p.1&&p.2.all fun f=>JU.any fun g=>g==f)=true:=∅;intro p hp;have q:=A3.mp h p hp;rw [Ae] at q;refine ⟨q.1,fun f hf=>?_⟩;obtain ⟨g,hg,e⟩:=De.mp (A3.mp q.2 f hf);cases Ax.mp e;exact hg
theorem qhe {d:PyData} {sh:Str} {hands:Bool} {n:Nat} (h:qK d sh hands=true) (hk:∀ e∈zm d,Gd n e):Gd (n+2) d:=by
 obtain ⟨hd,ts,fs,l,rfl,_,_,e,_,hl,hs,_⟩:=qV h;obtain ⟨k1,k2⟩:=vD _ (Bk e);refine VA fun x hx=>?_;rcases Ap.mp hx with rfl | hx
 ·exact vC k1
 ·obtain ⟨i,hi,rfl⟩:=List.getElem_of_mem hx;have hz:(ts[i],fs[i]'⋯)∈ts.zip fs:=by
   rw [List.mem_iff_getElem];exact ⟨i,by rw [Ef];omega,by rw [List.getElem_zip]⟩
  refine qk9 (hs _ hz) (k2 _ (Dq _)) fun z hzz=>hk z.1 ?_;unfold zm;refine Ci ?_;rw [qW e];exact C2.mpr ⟨_,hz,hzz⟩
mutual
theorem Tr.gd:∀ {d:PyData} {s t:Nat},Tr d s t→Gd (2*t) d
 | _,_,_,.mk hf h=>qhe hf (Trl.gd h)
theorem Trl.gd:∀ {ds:List PyData} {s t:Nat},Trl ds s t→∀ d∈ds,Gd (2*t) d
 | _,_,_,.nil=>fun d hd=>nomatch hd
 | _,_,_,.cons h1 h2=>by
  have a:=Tr.gd h1;have b:=Trl.gd h2;intro d hd;rcases Ap.mp hd with e | hd
  ·rw [e];exact a.mono ⋯
  ·exact (b d hd).mono ⋯
end
abbrev sz (d:PyData):Nat:=d.shown.length
theorem Xc:∀ xs:List PyData,PyData.shownAll xs=xs.map PyData.shown
 | []=>rfl
 | x::r=>by rw [PyData.shownAll,Xc r];rfl
theorem Xe (xs:List PyData):sz (.tuple xs)≤(xs.map sz).sum+2*xs.length+3:=by
 have h:=tupleText_len_le (xs.map PyData.shown);rw [Ab,Bu] at h;have e:sz (.tuple xs)=(tupleText (xs.map PyData.shown)).length:=by
  show (PyData.shown (.tuple xs)).length=_;rw [PyData.shown,Xc]
 rw [e];exact h
theorem QC {x:Str} {n:Nat} (h:PyData.strOk x=true) (hn:x.length≤n):sz (.str x)≤10*n+2:=by
 have q:=StrLaws.reprText_len x fun c hc=>by
  unfold PyData.strOk at h;rw [← Array.all_toList,A3] at h;have:=Ay (h c hc);omega
 have e:sz (.str x)=(reprText x).length:=by
  show (PyData.shown (.str x)).length=_;rw [PyData.shown]
 omega
theorem qay {i:Int} (h:Vv i=true):i.natAbs.log2<1920:=by
 unfold Vv at h;rw [Ae] at h;have a:=Ay h.1;have b:=Ay h.2;have c:i.natAbs<2 ^ 1920:=C4 (show i.natAbs≤1000000000000 from ⋯) ∅
 by_cases z:i.natAbs=0
 ·rw [z];decide
 ·exact (Nat.log2_lt z).mpr c
theorem qh8 {i:Int} (h:Vv i=true):sz (.int i)≤1921:=by
 have e:sz (.int i)=(Str.ofString (toString i)).length:=by
  show (PyData.shown (.int i)).length=_;rw [PyData.shown]
 rw [e];exact PyProof.Rows.int_text_len_1921 (qay h)
theorem vy {x:Str} (h:qY x=true):x.length≤8:=by
 unfold qY at h;rw [Ae,Ae] at h;exact Ay h.1.2
theorem Xf {t:PyData} (h:zh t=true):sz t≤82∧t.showable=true:=by
 cases t with
 | str x=>exact ⟨QC (vS h) (vy h),rfl⟩
 | _=>cases h
theorem qdu {c:Nat}:∀ {xs:List PyData},(∀ x∈xs,sz x≤c)→(xs.map sz).sum≤c*xs.length
 | [],_=>Bm _
 | x::r,h=>by
  have a:=h x Au;have b:=qdu fun y hy=>h y (Am _ hy);rw [Ba,D3,Aj,Nat.mul_succ];omega
theorem Qh:∀ {xs:List PyData},(∀ x∈xs,x.showable=true)→PyData.showableAll xs=true
 | [],_=>rfl
 | x::r,h=>by
  rw [PyData.showableAll,h x Au,Qh fun y hy=>h y (Am _ hy)];rfl
theorem Xg:∀ (xs:List PyData),(xs.map fun x=>sz x+2).sum=(xs.map sz).sum+2*xs.length
 | []=>rfl
 | x::r=>by
  rw [Ba,D3,Xg r,Ba,D3,Aj];omega
theorem V3 {xs:List PyData} (h:∀ x∈xs,x.showable=true):(PyData.tuple xs).showable=true:=by
 rw [PyData.showable];exact Qh h
theorem qkc {t:PyData} {f:Str} (hs:qA t f=true) (hf:f∈JU) (hk:∀ z∈ql t f,z.1.showable=true):t.showable=true∧sz t≤2000+((ql t f).map fun z=>sz z.1+2).sum:=by
 simp only [JU,Ap,Bg,or_false] at hf;rcases hf with rfl | rfl | rfl | rfl | rfl | rfl | rfl | rfl
 ·rw [jz] at hs;cases t with
  | int i=>
   have:=qh8 hs;exact ⟨by rw [PyData.showable];exact Ak (qay hs),⋯⟩
  | _=>cases hs
 ·rw [zS] at hs;obtain ⟨a,b⟩:=Xf hs;exact ⟨b,⋯⟩
 ·rw [Jj] at hs;cases t with
  | str x=>
   have q:(qY x&&x !="any")=true:=hs;rw [Ae] at q;obtain ⟨a,b⟩:=Xf (t:= .str x) q.1;exact ⟨b,⋯⟩
  | _=>cases hs
 ·rw [Jk] at hs;cases t with
  | str x=>
   have q:(VR.any fun y=>y==x)=true:=hs;obtain ⟨y,hy,e⟩:=De.mp q;cases Ax.mp e;have k:(VR.all fun y=>PyData.strOk y&&decide (y.length≤8))=true:=∅;have k':=A3.mp k _ hy;rw [Ae] at k';have:=QC k'.1 (Ay k'.2);exact ⟨rfl,⋯⟩
  | _=>cases hs
 ·rw [ju] at hs;cases t with
  | tuple xs=>
   simp only [areNames,Ae] at hs;have l4:=Ay hs.1.1;have q:∀ x∈xs,sz x≤82∧x.showable=true:=fun x hx=>Xf (A3.mp hs.1.2 x hx);have a:=Xe xs;have b:=qdu fun x hx=>(q x hx).1;exact ⟨V3 fun x hx=>(q x hx).2,⋯⟩
  | _=>cases hs
 ·rw [jt] at hs;cases t with
  | tuple xs=>
   rw [V0] at hk ⊢;rw [Bu];have a:=Xe xs;have b:=Xg xs;have e:((fun z:PyData×Str=>sz z.1+2) ∘ fun x:PyData=>(x,("term":Str)))=fun x=>sz x+2:=rfl;rw [e,b];exact ⟨V3 fun x hx=>hk (x,"term") (Ci hx),⋯⟩
  | _=>cases hs
 ·rw [jc] at hs;cases t with
  | tuple xs=>
   rw [zI] at hk ⊢;rw [Bu];have a:=Xe xs;have b:=Xg xs;have e:((fun z:PyData×Str=>sz z.1+2) ∘ fun x:PyData=>(x,("statement":Str)))=fun x=>sz x+2:=rfl;rw [e,b];exact ⟨V3 fun x hx=>hk (x,"statement") (Ci hx),⋯⟩
  | _=>cases hs
 ·rw [zU] at hk ⊢;refine ⟨hk (t,"term") Au,?_⟩;rw [Ba,D3];show sz t≤2000+(sz t+2+_);omega
theorem qdt:∀ (l:List (PyData×Str)),(∀ p∈l,sz p.1≤2000+((ql p.1 p.2).map fun z=>sz z.1+2).sum)→(l.map fun p=>sz p.1).sum≤2000*l.length+((l.flatMap fun p=>ql p.1 p.2).map fun z=>sz z.1+2).sum
 | [],_=>Bm _
 | p::r,h=>by
  have a:=h p Au;have b:=qdt r fun q hq=>h q (Am _ hq);rw [Ba,D3,Aj,Cz,An,List.sum_append];omega
theorem qhd {d:PyData} {sh:Str} {hands:Bool} (h:qK d sh hands=true) (hk:∀ e∈zm d,e.showable=true):d.showable=true∧sz d+2≤10200+((zm d).map fun e=>sz e+2).sum:=by
 obtain ⟨hd,ts,fs,l,rfl,_,_,e,h5,hl,hs,_⟩:=qV h;obtain ⟨k1,k2⟩:=vD _ (Bk e);have hh:hd.length≤8:=by
  have k:(forms.all fun p=>decide (p.1.length≤8))=true:=∅;exact Ay (A3.mp k _ (Bk e))
 have q:∀ p∈ts.zip fs,p.1.showable=true∧sz p.1≤2000+((ql p.1 p.2).map fun z=>sz z.1+2).sum:=fun p hp=>by
  refine qkc (hs p hp) (k2 _ (Dj hp).2) fun z hz=>hk z.1 ?_;unfold zm;refine Ci ?_;rw [qW e];exact C2.mpr ⟨_,hp,hz⟩
 have ez:(ts.zip fs).map (·.1)=ts:=List.map_fst_zip ⋯;refine ⟨V3 fun x hx=>?_,?_⟩
 ·rcases Ap.mp hx with rfl | hx
  ·rfl
  ·rw [← ez] at hx;obtain ⟨p,hp,rfl⟩:=By.mp hx;exact (q p hp).1
 ·have a:=Xe (.str hd::ts);have b:=qdt (ts.zip fs) fun p hp=>(q p hp).2;have c:sz (.str hd)≤82:=QC k1 hh;have e2:((ts.zip fs).map fun p=>sz p.1)=ts.map sz:=by
   rw [← ez,Bu]
   congr 1
   rw [ez]
  have e3:((zm (.tuple (.str hd::ts))).map fun e=>sz e+2)=(((ts.zip fs).flatMap fun p=>ql p.1 p.2).map fun z=>sz z.1+2):=by
   unfold zm;rw [qW e,Bu];rfl
  rw [e2,Ef] at b;rw [Ba,D3,Aj] at a;rw [e3];omega
mutual
theorem Tr.sz:∀ {d:PyData} {s t:Nat},Tr d s t→d.showable=true∧Tre.sz d+2≤10200*s
 | _,_,_,.mk hf h=>by
  obtain ⟨a,b⟩:=Trl.sz h;obtain ⟨c,e⟩:=qhd hf a;exact ⟨c,⋯⟩
theorem Trl.sz:∀ {ds:List PyData} {s t:Nat},Trl ds s t→(∀ d∈ds,d.showable=true)∧(ds.map fun e=>Tre.sz e+2).sum≤10200*s
 | _,_,_,.nil=>⟨fun d hd=>(nomatch hd),Bm _⟩
 | _,_,_,.cons h1 h2=>by
  obtain ⟨a,b⟩:=Tr.sz h1;obtain ⟨c,e⟩:=Trl.sz h2;refine ⟨fun d hd=>?_,?_⟩
  ·rcases Ap.mp hd with z | hd
   ·rw [z];exact a
   ·exact c d hd
  ·rw [Ba,D3];omega
end
theorem qa1:∀ {xs:List PyData},PyData.canLayAll0 xs=true→zO xs=true→∀ x∈xs,x.canLay0=true∧noL x=true
 | [],_,_,_,hx=>nomatch hx
 | y::r,h,n,x,hx=>by
  rw [PyData.canLayAll0,Ae] at h;rw [zO,Ae] at n;rcases Ap.mp hx with rfl | hx
  ·exact ⟨h.1,n.1⟩
  ·exact qa1 h.2 n.2 x hx
theorem Gd.mem {n:Nat} {xs:List PyData} (h:Gd n (.tuple xs)):∀ x∈xs,Gd n x:=fun x hx=>by
 have a:=h.lay;have b:=h.nol;have c:=h.dep;rw [PyData.canLay0] at a;rw [noL] at b;rw [PyData.depth] at c;obtain ⟨d,e⟩:=qa1 a b x hx;exact ⟨e,d,by have:=PyData.depth_le_depthAll xs x hx;omega⟩
theorem Gd.shaped {n:Nat} {d:PyData} (h:Gd n d) (hn:n≤64):SeqAt.shaped d=true:=by
 unfold SeqAt.shaped;rw [h.lay,Ak (Av h.dep hn)];rfl
def wt:PyData→Bool
 | .tuple (.str _::_)=>true
 | _=>false
def jn:PyData→Bool
 | .tuple _=>true
 | _=>false
def holds (h:Str):Bool:=h=="main"||(h=="fun"||h=="loop")
theorem ww {d:PyData} {sh:Str} {hands:Bool} (h:qK d sh hands=true):wt d=true∧jn d=true:=by
 obtain ⟨hd,ts,fs,l,rfl,_⟩:=qV h;exact ⟨rfl,rfl⟩
theorem Z5:∀ p∈forms,∀ f∈p.2,(f="names"→holds p.1=true)∧(f="term"→holds p.1=false):=by
 have h:(forms.all fun p=>p.2.all fun f=>(f !="names"||holds p.1)&&(f !="term"||!holds p.1))=true:=∅;intro p hp f hf;have q:=A3.mp (A3.mp h p hp) f hf;rw [Ae,B4,B4,bne_iff_ne,bne_iff_ne,D4] at q;exact ⟨fun e=>q.1.resolve_left fun n=>n e,fun e=>q.2.resolve_left fun n=>n e⟩
theorem qdv {xs:List PyData} (h:xs.all zh=true):xs.filter jn=[]:=by
 rw [List.filter_eq_nil_iff];intro x hx z;have q:=A3.mp h x hx;cases x with
 | tuple _=>cases q
 | _=>cases z
theorem qaj {xs:List PyData} (h:∀ x∈xs,jn x=true):xs.filter jn=xs:=List.filter_eq_self.mpr h
theorem qau {xs:List PyData} (h:∀ x∈xs,jn x=true):wt (.tuple xs)=false:=by
 cases xs with
 | nil=>rfl
 | cons x r=>
  have q:=h x Au;cases x with
  | tuple _=>rfl
  | _=>cases q
theorem qg6 {h:Str} {fs:List Str} (e:forms.lookup h=some fs) {t:PyData} {f:Str} (hf:f∈fs) (hs:qA t f=true) (hk:∀ z∈ql t f,∃ sh hands,qK z.1 sh hands=true):
  (jn t=false∧(ql t f).map (·.1)=[])∨(wt t=true∧holds h=false∧(ql t f).map (·.1)=[t])∨(∃ xs,t= .tuple xs∧(wt t&&!holds h)=false∧xs.length≤12∧(ql t f).map (·.1)=xs.filter jn):=by
 obtain ⟨n1,n2⟩:=Z5 _ (Bk e) f hf;have hf':=(vD _ (Bk e)).2 f hf;simp only [JU,Ap,Bg,or_false] at hf';rcases hf' with rfl | rfl | rfl | rfl | rfl | rfl | rfl | rfl
 ·rw [jz] at hs;refine .inl ⟨?_,by rw [zL ∅];rfl⟩
  cases t with
  | int i=>rfl
  | _=>cases hs
 ·rw [zS] at hs;refine .inl ⟨?_,by rw [zL ∅];rfl⟩
  cases t with
  | str i=>rfl
  | _=>cases hs
 ·rw [Jj] at hs;refine .inl ⟨?_,by rw [zL ∅];rfl⟩
  cases t with
  | str i=>rfl
  | _=>cases hs
 ·rw [Jk] at hs;refine .inl ⟨?_,by rw [zL ∅];rfl⟩
  cases t with
  | str i=>rfl
  | _=>cases hs
 ·rw [ju] at hs;refine .inr (.inr ?_);cases t with
  | tuple xs=>
   simp only [areNames,Ae] at hs;refine ⟨xs,rfl,by rw [n1 rfl];exact C9 _,by have:=Ay hs.1.1;omega,?_⟩
   rw [zL ∅,qdv hs.1.2];rfl
  | _=>cases hs
 ·rw [jt] at hs;cases t with
  | tuple xs=>
   rw [V0] at hk ⊢;have q:∀ x∈xs,jn x=true:=fun x hx=>by
    obtain ⟨sh,hands,hh⟩:=hk (x,"term") (Ci hx);exact (ww hh).2
   refine .inr (.inr ⟨xs,rfl,by rw [qau q];rfl,by have:=Ay hs;omega,?_⟩)
   rw [qaj q,Bu];exact Eu _
  | _=>cases hs
 ·rw [jc] at hs;cases t with
  | tuple xs=>
   rw [zI] at hk ⊢;have q:∀ x∈xs,jn x=true:=fun x hx=>by
    obtain ⟨sh,hands,hh⟩:=hk (x,"statement") (Ci hx);exact (ww hh).2
   refine .inr (.inr ⟨xs,rfl,by rw [qau q];rfl,by have:=Ay hs;omega,?_⟩)
   rw [qaj q,Bu];exact Eu _
  | _=>cases hs
 ·rw [zU] at hk ⊢;obtain ⟨sh,hands,hh⟩:=hk (t,"term") Au;exact .inr (.inl ⟨(ww hh).1,n2 rfl,rfl⟩)
def isFn (d:PyData):Bool:=holds (headOf d)
def fnOf:PyData→PyData→PyData
 | .tuple (h::a::b::_),o=> .tuple [h,a,b,o]
 | _,_=> .none
def zx (d o:PyData) (acc:List PyData):List PyData:=if isFn d=true then acc++[fnOf d o] else acc
def ja (d o:PyData) (acc:List PyData):PyData:=if isFn d=true then .int (acc.length:Nat) else o
def WW:Nat→PyData→PyData→List PyData→List PyData
 | 0,_,_,acc=>acc
 | n+1,d,o,acc=>(zm d).foldl (fun a e=>WW n e (ja d o acc) a) (zx d o acc)
structure Box (α:Type) where
 val:α
@[irreducible] def qdk:Box (Nat→PyData→PyData→List PyData→List PyData):=⟨WW⟩
def jJ (n:Nat) (d o:PyData) (acc:List PyData):List PyData:=qdk.val n d o acc
theorem WV (n:Nat) (d o:PyData) (acc:List PyData):jJ n d o acc=WW n d o acc:=by
 unfold jJ qdk;rfl
theorem Qx (d o:PyData) (acc:List PyData):jJ 0 d o acc=acc:=by
 rw [WV,WW]
theorem jL (n:Nat) (d o:PyData) (acc:List PyData):jJ (n+1) d o acc=(zm d).foldl (fun a e=>jJ n e (ja d o acc) a) (zx d o acc):=by
 rw [WV,WW]
 congr 1
 funext a e;rw [WV]
abbrev jO (n:Nat) (ds:List PyData) (o:PyData) (acc:List PyData):List PyData:=ds.foldl (fun a e=>jJ n e o a) acc
theorem Trl.mem:∀ {ds:List PyData} {s t:Nat},Trl ds s t→∀ d∈ds,∃ s' t',Tr d s' t'∧s'≤s∧t'≤t:=by
 intro ds
 induction ds with
 | nil=>intro s t _ d hd;cases hd
 | cons e r ih=>
  intro s t h d hd;cases h with
  | @cons _ _ s1 t1 s2 t2 h1 h2=>
   rcases Ap.mp hd with rfl | hd
   ·exact ⟨s1,t1,h1,⋯,⋯⟩
   ·obtain ⟨s',t',a,b,c⟩:=ih h2 d hd;exact ⟨s',t',a,⋯,⋯⟩
theorem VB {α β:Type} {f g:α→β→α}:∀ (l:List β) (a:α),(∀ e∈l,∀ a,f a e=g a e)→l.foldl f a=l.foldl g a
 | [],_,_=>rfl
 | e::r,a,h=>by
  rw [B3,B3,h e Au];exact VB r _ fun e he=>h e (Am _ he)
theorem Zg:∀ (n:Nat) {d:PyData} {s t:Nat} (o:PyData) (acc:List PyData),Tr d s t→t≤n→jJ n d o acc=jJ (n+1) d o acc
 | 0,d,s,t,o,acc,h,ht=>by
  cases h;omega
 | n+1,d,s,t,o,acc,h,ht=>by
  cases h with
  | mk hf tl=>
   rw [jL,jL];refine VB _ _ fun e he a=>?_;obtain ⟨s',t',h',_,h2⟩:=tl.mem e he;exact Zg n _ _ h' ⋯
theorem Vh {d:PyData} {s t:Nat} {o:PyData} {acc:List PyData} (h:Tr d s t) (ht:t≤29):jJ 30 d o acc=jO 30 (zm d) (ja d o acc) (zx d o acc):=by
 cases h with
 | mk hf tl=>
  rw [jL];refine VB _ _ fun e he a=>?_;obtain ⟨s',t',h',_,h2⟩:=tl.mem e he;exact Zg 29 _ _ h' ⋯
theorem qcs:∀ p∈forms,holds p.1=true→p.2.length=2:=by
 have h:(forms.all fun p=>!holds p.1||decide (p.2.length=2))=true:=∅;intro p hp hh;have q:=A3.mp h p hp;rw [hh] at q;exact Ay q
theorem qa7 {d:PyData} {sh:Str} {hands:Bool} (h:qK d sh hands=true) (hh:isFn d=true):∃ hd a b,d= .tuple [.str hd,a,b]∧holds hd=true:=by
 obtain ⟨hd,ts,fs,l,rfl,_,_,e,_,hl,_⟩:=qV h;have h2:=qcs _ (Bk e) hh
 match ts,hl with
 | [a,b],_=>exact ⟨hd,a,b,rfl,hh⟩
 | [],z=>rw [h2] at z;cases z
 | [_],z=>rw [h2] at z;cases z
 | _::_::_::_,z=>rw [h2] at z;cases z
def Fn (e:PyData):Prop:=∃ h a b o,e= .tuple [.str h,a,b,o]∧Gd 60 e
def FnI (e:PyData):Prop:=∃ h a b k,e= .tuple [.str h,a,b,.int k]
structure Acc (acc:List PyData):Prop where
 all:∀ e∈acc,Fn e
 tail:∀ e∈acc.tail,FnI e
theorem qa8 {d o:PyData} {s t:Nat} (h:Tr d s t) (hh:isFn d=true) (ht:t≤29) (ho:Gd 0 o):Fn (fnOf d o):=by
 have g:=h.gd;cases h with
 | mk hf _=>
  obtain ⟨hd,a,b,rfl,_⟩:=qa7 hf hh;refine ⟨hd,a,b,o,rfl,(VA (n:=59) fun x hx=>?_)⟩;have q:∀ x∈[.str hd,a,b],Gd 59 x:=fun x hx=>(g.mem x hx).mono ⋯;simp only [Ap,Bg,or_false] at hx;rcases hx with rfl | rfl | rfl | rfl
  ·exact q _ (by simp)
  ·exact q _ (by simp)
  ·exact q _ (by simp)
  ·exact ho.mono ⋯
theorem Qj {d:PyData} {s t:Nat} {k:Int} {acc:List PyData} (h:Tr d s t) (ht:t≤29) (hn:acc≠[]) (ha:Acc acc):Acc (zx d (.int k) acc)∧zx d (.int k) acc≠[]:=by
 unfold zx;split
 ·rename_i hh;refine ⟨⟨fun e he=>?_,fun e he=>?_⟩,by simp⟩
  ·rcases Bl.mp he with he | he
   ·exact ha.all e he
   ·cases Az.mp he;exact qa8 h hh ht XO
  ·rw [List.tail_append_of_ne_nil hn] at he;rcases Bl.mp he with he | he
   ·exact ha.tail e he
   ·cases Az.mp he;cases h with
    | mk hf _=>
     obtain ⟨hd,a,b,rfl,_⟩:=qa7 hf hh;exact ⟨hd,a,b,k,rfl⟩
 ·exact ⟨ha,hn⟩
theorem qgy (d:PyData) (k:Int) (acc:List PyData):∃ j,ja d (.int k) acc= .int j:=by
 unfold ja;split
 ·exact ⟨_,rfl⟩
 ·exact ⟨k,rfl⟩
theorem X3 (d o:PyData) (acc:List PyData):(zx d o acc).length≤acc.length+1:=by
 unfold zx;split
 ·simp
 ·omega
theorem vY:∀ (ds:List PyData) (o:PyData) (acc:List PyData),jO 0 ds o acc=acc
 | [],_,_=>rfl
 | d::r,o,acc=>by
  show List.foldl _ (jJ 0 d o acc) r=acc;rw [Qx];exact vY r o acc
theorem yL:∀ (n:Nat) {ds:List PyData} {s t:Nat} (k:Int) (acc:List PyData),Trl ds s t→t≤29→acc≠[]→Acc acc→Acc (jO n ds (.int k) acc)∧jO n ds (.int k) acc≠[]∧(jO n ds (.int k) acc).length≤acc.length+s
 | 0,ds,s,t,k,acc,h,ht,hn,ha=>by
  have e:=vY ds (.int k) acc;rw [e];exact ⟨ha,hn,⋯⟩
 | n+1,ds,s,t,k,acc,h,ht,hn,ha=>by
  induction ds generalizing s t acc with
  | nil=>
   cases h;exact ⟨ha,hn,Ah _⟩
  | cons d r ih=>
   cases h with
   | @cons _ _ s1 t1 s2 t2 h1 h2=>
    unfold jO;rw [B3,jL];obtain ⟨a1,a2⟩:=Qj (k:=k) h1 ⋯ hn ha;obtain ⟨j,ej⟩:=qgy d k acc;have al:=X3 d (.int k) acc;cases h1 with
    | @mk _ sh hands s0 t0 hf tl=>
     obtain ⟨b1,b2,b3⟩:=yL n j (zx d (.int k) acc) tl ⋯ a2 a1;rw [ej];obtain ⟨c1,c2,c3⟩:=ih _ _ (jO n (zm d) (.int j) (zx d (.int k) acc)) h2 ⋯ b2 b1;exact ⟨c1,c2,by show List.length (jO (n+1) r (.int k) (jO n (zm d) (.int j) (zx d (.int k) acc)))≤_;omega⟩
abbrev funs (d:PyData):List PyData:=jJ 30 d .none []
theorem vX {d:PyData} {s t:Nat} (h:Pt d "program" false s t) (ht:t≤20):(∃ a b,d= .tuple [.str "main",a,b]∧funs d=jO 30 (zm d) (.int 0) [.tuple [.str "main",a,b,.none]])∧Acc (funs d)∧(funs d).length≤s:=by
 have tr:=h.tr;cases h with
 | @mk _ _ _ s t hf _=>
  obtain ⟨hd,ts,fs,l,rfl,e1,e2,_⟩:=qV hf;have hm:hd="main":=by
   have q:heads.lookup ("program":Str)=some (["main"]:List Str):=∅;rw [q] at e1;cases e1;simpa using e2
  subst hm;have hh:isFn (.tuple (.str "main"::ts))=true:=(∅:holds "main"=true);obtain ⟨hd,a,b,e,_⟩:=qa7 hf hh;cases e;have ev:funs (.tuple [.str "main",a,b])=jO 30 (zm (.tuple [.str "main",a,b])) (.int 0) [.tuple [.str "main",a,b,.none]]:=by
   show jJ 30 _ _ _=_;rw [Vh tr ⋯];unfold ja zx;rw [if_pos hh,if_pos hh];rfl
  have fn:=qa8 (o:= .none) tr hh ⋯ ⟨rfl,rfl,Bm _⟩;refine ⟨⟨a,b,rfl,ev⟩,?_⟩;rw [ev];cases tr with
  | @mk _ sh hands s0 t0 hf2 tl=>
   obtain ⟨c1,_,c3⟩:=yL 30 0 [.tuple [.str "main",a,b,.none]] tl ⋯ (by simp) ⟨fun e he=>by
    cases Az.mp he;exact fn,fun e he=>by cases he⟩
   exact ⟨c1,by rw [At] at c3;omega⟩
inductive Stk:List (PyData×PyData)→Nat→Prop
 | nil:Stk [] 0
 | cons {d o:PyData} {r:List (PyData×PyData)} {s t m:Nat}:Tr d s t→t≤20→Gd 0 o→Stk r m→Stk ((d,o)::r) (s+m)
abbrev Qi (tops:List (PyData×PyData)) (acc:List PyData):List PyData:=tops.foldl (fun a p=>jJ 30 p.1 p.2 a) acc
theorem Stk.push {o:PyData} (ho:Gd 0 o) {r:List (PyData×PyData)} {m:Nat} (hr:Stk r m):∀ {ds:List PyData} {s t:Nat},Trl ds s t→t≤20→Stk (ds.map (fun e=>(e,o))++r) (s+m):=by
 intro ds
 induction ds with
 | nil=>intro s t h _;cases h;simpa using hr
 | cons d q ih=>
  intro s t h ht;cases h with
  | @cons _ _ s1 t1 s2 t2 h1 h2=>
   have:=Stk.cons h1 ⋯ ho (ih h2 ⋯);rw [Ba,C5,E7];exact this
theorem Q5 (ds:List PyData) (o:PyData) (r:List (PyData×PyData)) (acc:List PyData):Qi (ds.map (fun e=>(e,o))++r) acc=Qi r (jO 30 ds o acc):=by
 unfold Qi jO;rw [List.foldl_append,List.foldl_map]
abbrev VU (p:PyData×PyData):PyData:= .tuple [p.1,p.2]
theorem Stk.len:∀ {tops:List (PyData×PyData)} {m:Nat},Stk tops m→tops.length≤m:=by
 intro tops
 induction tops with
 | nil=>intro m _;exact Bm _
 | cons p r ih=>
  intro m h;cases h with
  | cons h1 _ _ h2=>
   have:=ih h2;cases h1;rw [Aj];omega
theorem Stk.nol:∀ {tops:List (PyData×PyData)} {m:Nat},Stk tops m→zO (tops.map VU)=true:=by
 intro tops
 induction tops with
 | nil=>intro m _;rfl
 | cons p r ih=>
  intro m h;cases h with
  | cons h1 _ h0 h2=>
   rw [Ba,zO,ih h2,Bool.and_true];show noL (.tuple [_,_])=true;rw [noL,zO,zO,zO,h1.gd.nol,h0.nol];rfl
def vG (h:Str):Bool:=h=="if"||(h=="while"||h=="try")
mutual
def brS:PyData→List Str
 | .tuple (.str h::t::r)=>(if h=="let" then [txt t] else [])++zB h 1 (t::r)
 | _=>[]
def zB (h:Str):Nat→List PyData→List Str
 | _,[]=>[]
 | k,t::r=>(if h=="try"&&k==3 then [txt t] else [])++((if vG h&&(jn t&&(decide (1<k)||h=="try")) then brB t else [])++zB h (k+1) r)
def brB:PyData→List Str
 | .tuple xs=>brL xs
 | _=>[]
def brL:List PyData→List Str
 | []=>[]
 | x::r=>brS x++brL r
end
theorem brL_append:∀ (a b:List PyData),brL (a++b)=brL a++brL b
 | [],b=>by rw [Bw,brL,Bw]
 | x::r,b=>by rw [C5,brL,brL,brL_append r b,B6]
theorem YG (xs:List PyData):jn (.tuple xs)=true:=rfl
theorem qhs (x:Str):jn (.str x)=false:=rfl
theorem Q4 (a b:PyData):brS (.tuple [.str "let",a,b])=[txt a]:=by
 rw [brS,zB,zB,zB,if_pos ∅,if_neg ∅,if_neg (by rw [show vG "let"=false from ∅,Cp];exact Ag),if_neg ∅,if_neg (by rw [show vG "let"=false from ∅,Cp];exact Ag)]
 rfl
theorem qfn (a:PyData) (xs ys:List PyData):brS (.tuple [.str "if",a,.tuple xs,.tuple ys])=brL xs++brL ys:=by
 rw [brS,zB,zB,zB,zB,YG,YG,if_neg ∅,if_neg ∅,if_neg (show ¬ ((vG "if"&&(jn a&&(decide (1<1)||(("if":Str)=="try"))))=true) by
  rw [show (decide (1<1)||(("if":Str)=="try"))=false from ∅,C9,C9];exact Ag),if_neg ∅,if_pos ∅,if_neg ∅,if_pos ∅,brB,brB]
 simp
theorem yS (a:PyData) (xs:List PyData):brS (.tuple [.str "while",a,.tuple xs])=brL xs:=by
 rw [brS,zB,zB,zB,YG,if_neg ∅,if_neg ∅,if_neg (show ¬ ((vG "while"&&(jn a&&(decide (1<1)||(("while":Str)=="try"))))=true) by
  rw [show (decide (1<1)||(("while":Str)=="try"))=false from ∅,C9,C9];exact Ag),if_neg ∅,if_pos ∅,brB]
 simp
theorem Q3 (b c:Str) (xs ys zs:List PyData):brS (.tuple [.str "try",.tuple xs,.str b,.str c,.tuple ys,.tuple zs])=brL xs++(c::(brL ys++brL zs)):=by
 rw [brS,zB,zB,zB,zB,zB,zB,YG,YG,YG,qhs,qhs,if_neg ∅,if_neg ∅,if_pos ∅,if_neg ∅,if_neg ∅,if_pos ∅,if_neg ∅,if_neg ∅,if_pos ∅,if_neg ∅,if_pos ∅,brB,brB,brB];simp [txt]
theorem Y6 {h:Str} (hc:vG h=false):∀ (ts:List PyData) (k:Nat),zB h k ts=[]
 | [],k=>by rw [zB]
 | t::r,k=>by
  have ht:(h=="try")=false:=by
   unfold vG at hc;rw [Ep,Ep] at hc;exact hc.2.2
  rw [zB,Y6 hc r,hc,ht];rfl
theorem qhk {h:Str} {ts:List PyData} (hl:(h=="let")=false) (hc:vG h=false):brS (.tuple (.str h::ts))=[]:=by
 cases ts with
 | nil=>rw [brS];intro h t r z;cases z
 | cons t r=>rw [brS,hl,Y6 hc];rfl
def own:PyData→List Str
 | .tuple (.str h::t::_)=>if h=="name"||h=="set" then [txt t] else []
 | _=>[]
def XL (d:PyData):Bool:=headOf d=="fun"||headOf d=="loop"
def WX:Nat→PyData→List Str
 | 0,_=>[]
 | n+1,d=>if XL d=true then [] else own d++(zm d).flatMap (WX n)
@[irreducible] def qhm:Box (Nat→PyData→List Str):=⟨WX⟩
def jg (n:Nat) (d:PyData):List Str:=qhm.val n d
theorem WM (n:Nat) (d:PyData):jg n d=WX n d:=by
 unfold jg qhm;rfl
theorem JO (n:Nat) (d:PyData):jg (n+1) d=if XL d=true then [] else own d++(zm d).flatMap (jg n):=by
 have e:jg n=WX n:=funext fun d=>WM n d;rw [WM,WX,e]
theorem wx {α β:Type} {f g:α→List β}:∀ (l:List α),(∀ e∈l,f e=g e)→l.flatMap f=l.flatMap g
 | [],_=>rfl
 | e::r,h=>by
  rw [Cz,Cz,h e Au,wx r fun e he=>h e (Am _ he)]
theorem qaf:∀ (n:Nat) {d:PyData} {s t:Nat},Tr d s t→t≤n→jg n d=jg (n+1) d
 | 0,d,s,t,h,ht=>by
  cases h;omega
 | n+1,d,s,t,h,ht=>by
  cases h with
  | mk hf tl=>
   rw [JO,JO];rw [wx (zm d) fun e he=>?_];obtain ⟨s',t',h',_,h2⟩:=tl.mem e he;exact qaf n h' ⋯
theorem YE {d:PyData} {s t:Nat} (h:Tr d s t) (ht:t≤29):jg 30 d=if XL d=true then [] else own d++(zm d).flatMap (jg 30):=by
 cases h with
 | mk hf tl=>
  rw [JO];rw [wx (zm d) fun e he=>?_];obtain ⟨s',t',h',_,h2⟩:=tl.mem e he;exact qaf 29 h' ⋯
theorem qi2 {d:PyData} (h:XL d=true):own d=[]:=by
 unfold own;split
 ·rename_i hd t r;have e:headOf (.tuple (.str hd::t::r))=hd:=rfl;unfold XL at h;rw [e,B4,Ax,Ax] at h;rcases h with rfl | rfl <;> exact if_neg ∅
 ·rfl
theorem qi1 (d:PyData):(own d).length≤1:=by
 unfold own;split
 ·split <;> simp
 ·simp
mutual
theorem Tr.uses_le:∀ {d:PyData} {s t:Nat} (n:Nat),Tr d s t→(jg n d).length≤s
 | d,_,_,0,h=>by
  rw [WM,WX];exact Bm _
 | d,_,_,n+1,.mk hf tl=>by
  rw [JO];split
  ·exact Bm _
  ·rw [Ac];have a:=qi1 d;have b:=Trl.uses_le n tl;omega
theorem Trl.uses_le:∀ {ds:List PyData} {s t:Nat} (n:Nat),Trl ds s t→(ds.flatMap (jg n)).length≤s
 | _,_,_,n,.nil=>by simp
 | _,_,_,n,.cons h1 h2=>by
  rw [Cz,Ac];have a:=Tr.uses_le n h1;have b:=Trl.uses_le n h2;omega
end
structure Row where
 names:List Str
 used:List Str
 outer:Option Nat
def qr:PyData→List PyData
 | .tuple xs=>xs
 | _=>[]
def qky:PyData→Option Nat
 | .int i=>some i.toNat
 | _=>none
def YK:PyData→Row
 | .tuple [_,a,b,o]=>⟨(qr a).map txt++brB b,(qr b).flatMap (jg 30),qky o⟩
 | _=>⟨[],[],none⟩
abbrev jX (fs:List PyData):List Row:=fs.map YK
def up (rs:List Row):Nat→Nat→Str→Option Nat
 | 0,_,_=>none
 | n+1,i,x=>match rs[i]? with
  | none=>none
  | some r=>if r.names.contains x=true then some i else match r.outer with
   | none=>none
   | some j=>up rs n j x
def zP (rs:List Row) (i:Nat) (x:Str):Option Nat:=up rs (i+1) i x
def Qw (rs:List Row):Prop:=∀ (i:Nat) (r:Row),rs[i]?=some r→∀ j,r.outer=some j→j<i
theorem qah {rs:List Row} (ho:Qw rs) {x:Str}:∀ (n m i:Nat),i<n→i<m→up rs n i x=up rs m i x
 | 0,_,_,h,_=>absurd h (Nat.not_lt_zero _)
 | _,0,_,_,h=>absurd h (Nat.not_lt_zero _)
 | n+1,m+1,i,h1,h2=>by
  rw [up,up];cases e:rs[i]? with
  | none=>rfl
  | some r=>
   dsimp only;split
   ·rfl
   ·cases e2:r.outer with
    | none=>rfl
    | some j=>
     have:=ho i r e j e2;exact qah ho n m j ⋯ ⋯
theorem wu {rs:List Row} (ho:Qw rs) {i:Nat} {r:Row} {x:Str} (e:rs[i]?=some r):zP rs i x=if r.names.contains x=true then some i else match r.outer with
   | none=>none
   | some j=>zP rs j x:=by
 unfold zP;rw [up,e];dsimp only;split
 ·rfl
 ·cases e2:r.outer with
  | none=>rfl
  | some j=>
   have:=ho i r e j e2;exact qah ho _ _ j ⋯ ⋯
theorem yA {rs:List Row} {x:Str}:∀ (n i:Nat) {k:Nat},up rs n i x=some k→∃ r,rs[k]?=some r∧r.names.contains x=true
 | 0,_,_,h=>by cases h
 | n+1,i,k,h=>by
  rw [up] at h;cases e:rs[i]? with
  | none=>rw [e] at h;cases h
  | some r=>
   rw [e] at h;dsimp only at h;split at h
   ·rename_i hc;cases h;exact ⟨r,e,hc⟩
   ·cases e2:r.outer with
    | none=>rw [e2] at h;cases h
    | some j=>rw [e2] at h;exact yA n j h
def zp:List Str→List Str→List Str
 | _,[]=>[]
 | seen,x::r=>if seen.contains x=true then x::zp (seen++[x]) r else zp (seen++[x]) r
def lost (rs:List Row) (i:Nat) (l:List Str):List Str:=l.filter fun x=>(zP rs i x).isNone
def bad (rs:List Row) (i:Nat) (r:Row):List Str:=zp [] r.names++lost rs i r.used
def zf (rs:List Row):Nat→List Row→Option Str
 | _,[]=>none
 | i,r::q=>match bad rs i r with
  | []=>zf rs (i+1) q
  | x::_=>some x
def vg (rs:List Row):Option Str:=zf rs 0 rs
theorem YF:∀ (l seen:List Str),zp seen l=[]→seen.Nodup→(seen++l).Nodup
 | [],seen,_,h=>by rw [A6];exact h
 | x::r,seen,h,hs=>by
  rw [zp] at h;split at h
  ·cases h
  ·rename_i hc;have e:seen++x::r=(seen++[x])++r:=by rw [B6];rfl
   rw [e];refine YF r (seen++[x]) h ?_;rw [List.nodup_append];refine ⟨hs,by simp,fun a ha b hb=>?_⟩
   cases Az.mp hb;intro z;subst z;exact hc (Co.mpr ha)
theorem Vg {rs:List Row}:∀ (l:List Row) (i:Nat),zf rs i l=none→∀ k r,l[k]?=some r→bad rs (i+k) r=[]
 | [],i,_,k,r,h=>by simp at h
 | q::l,i,h,k,r,hk=>by
  rw [zf] at h;cases e:bad rs i q with
  | cons x y=>rw [e] at h;cases h
  | nil=>
   rw [e] at h;cases k with
   | zero=>cases hk;exact e
   | succ k=>
    rw [Da] at hk;have:=Vg l (i+1) h k r hk;rw [show i+(k+1)=i+1+k from ⋯];exact this
structure FnW (e:PyData) (i:Nat):Prop where
 ex:∃ h ns xs o s t,e= .tuple [.str h,.tuple ns,.tuple xs,o]∧ns.all zh=true∧ns.length≤4∧Trl xs s t∧s≤300∧t≤20∧(o= .none∨∃ j:Nat,o= .int (j:Nat)∧j<i)
def qdg (acc:List PyData):Prop:=∀ i e,acc[i]?=some e→FnW e i
def qdd (o:PyData) (n:Nat):Prop:=o= .none∨∃ j:Nat,o= .int (j:Nat)∧j<n
theorem qfa:∀ p∈forms,holds p.1=true→p.2=(["names","body"]:List Str):=by
 have h:(forms.all fun p=>!holds p.1||decide (p.2=(["names","body"]:List Str)))=true:=∅;intro p hp hh;have q:=A3.mp h p hp;rw [hh] at q;exact Ay q
theorem yF {d:PyData} {sh:Str} {hands:Bool} (h:qK d sh hands=true) (hh:isFn d=true):∃ hd ns xs,d= .tuple [.str hd,.tuple ns,.tuple xs]∧ns.all zh=true∧ns.length≤4∧zm d=xs:=by
 obtain ⟨hd,ts,fs,l,rfl,_,_,e,_,hl,hs,_⟩:=qV h;have h2:=qfa _ (Bk e) hh;dsimp only at h2;subst h2
 match ts,hl with
 | [a,b],_=>
  have ha:=hs (a,"names") (by simp)
  have hb:=hs (b,"body") (by simp)
  dsimp only at ha hb;rw [ju] at ha;rw [jc] at hb;cases a with
  | tuple ns=>
   cases b with
   | tuple xs=>
    simp only [areNames,Ae] at ha;refine ⟨hd,ns,xs,rfl,ha.1.2,Ay ha.1.1,?_⟩;unfold zm;rw [qW e];show ((ql _ _++(ql _ _++[])).map _)=xs;rw [zL (sh:="names") ∅,zI,Bw,A6,Bu];exact Eu _
   | _=>cases hb
  | _=>cases ha
theorem qdc {d o:PyData} {s t:Nat} {acc:List PyData} (h:Tr d s t) (hs:s≤300) (ht:t≤20) (ho:qdd o acc.length) (ha:qdg acc):qdg (zx d o acc)∧qdd (ja d o acc) (zx d o acc).length∧acc.length≤(zx d o acc).length:=by
 unfold zx ja;split
 ·rename_i hh;cases h with
  | @mk _ sh hands s0 t0 hf tl=>
   obtain ⟨hd,ns,xs,rfl,h1,h2,h3⟩:=yF hf hh;refine ⟨fun i e he=>?_,.inr ⟨acc.length,rfl,by simp⟩,by simp⟩
   by_cases hi:i<acc.length
   ·rw [D5 hi] at he;exact ha i e he
   ·rw [Cw ⋯] at he;have hz:i - acc.length=0:=by
     cases q:i - acc.length with
     | zero=>rfl
     | succ k=>rw [q] at he;simp at he
    have hi2:i=acc.length:=⋯;rw [hz] at he;cases he;rw [h3] at tl;subst hi2;exact ⟨hd,ns,xs,o,s0,t0,rfl,h1,h2,tl,⋯,⋯,ho⟩
 ·exact ⟨ha,ho,Ah _⟩
theorem qdd.mono {o:PyData} {n m:Nat} (h:qdd o n) (hm:n≤m):qdd o m:=by
 rcases h with h | ⟨j,e,h⟩
 ·exact .inl h
 ·exact .inr ⟨j,e,⋯⟩
theorem Y2:∀ (n:Nat) {ds:List PyData} {s t:Nat} (o:PyData) (acc:List PyData),Trl ds s t→s≤300→t≤20→qdd o acc.length→qdg acc→qdg (jO n ds o acc)∧acc.length≤(jO n ds o acc).length
 | 0,ds,s,t,o,acc,h,hs,ht,ho,ha=>by
  have e:=vY ds o acc;rw [e];exact ⟨ha,Ah _⟩
 | n+1,ds,s,t,o,acc,h,hs,ht,ho,ha=>by
  induction ds generalizing s t acc with
  | nil=>exact ⟨ha,Ah _⟩
  | cons d r ih=>
   cases h with
   | @cons _ _ s1 t1 s2 t2 h1 h2=>
    unfold jO;rw [B3,jL];obtain ⟨a1,a2,a3⟩:=qdc (o:=o) h1 ⋯ ⋯ ho ha;cases h1 with
    | @mk _ sh hands s0 t0 hf tl=>
     obtain ⟨b1,b2⟩:=Y2 n (ja d o acc) (zx d o acc) tl ⋯ ⋯ a2 a1;obtain ⟨c1,c2⟩:=ih _ _ (jO n (zm d) (ja d o acc) (zx d o acc)) h2 ⋯ ⋯ (ho.mono ⋯) b1;exact ⟨c1,Av a3 (Av b2 c2)⟩
theorem Y0 {d:PyData} {s t:Nat} (h:Pt d "program" false s t) (hs:s≤300) (ht:t≤20):qdg (funs d):=by
 have tr:=h.tr;have e:funs d=jO 30 [d] .none []:=rfl;rw [e];have q:=Y2 30 (ds:=[d]) (s:=s+0) (t:=max t 0) .none [] (.cons tr .nil) ⋯ ⋯ (.inl rfl) (fun i e he=>by simp at he)
 exact q.1
theorem qed {fs:List PyData} (h:qdg fs):Qw (jX fs):=by
 intro i r hr j hj;rw [A0] at hr;cases e:fs[i]? with
 | none=>rw [e] at hr;cases hr
 | some d=>
  rw [e] at hr;obtain ⟨hd,ns,xs,o,s,t,rfl,_,_,_,_,_,ho⟩:=(h i d e).ex;cases hr;rcases ho with rfl | ⟨k,rfl,hk⟩
  ·cases hj
  ·have:((k:Nat):Int).toNat=j:=by
    have z:qky (.int (k:Nat))=some j:=hj;exact Be z
   omega
theorem Trl.split:∀ {a b:List PyData} {s t:Nat},Trl (a++b) s t→∃ s1 t1 s2 t2,Trl a s1 t1∧Trl b s2 t2∧s=s1+s2∧t1≤t∧t2≤t
 | [],b,s,t,h=>⟨0,0,s,t,.nil,h,(Nat.zero_add _).symm,Bm _,Ah _⟩
 | x::a,b,_,_,.cons (s:=s0) (t:=t0) h1 h2=>by
  obtain ⟨s1,t1,s2,t2,p,q,e,l1,l2⟩:=Trl.split h2;exact ⟨s0+s1,max t0 t1,s2,t2,.cons h1 p,q,⋯,⋯,⋯⟩
inductive Stm:PyData→Nat→Nat→Prop
 | let_ {x:Str} {a:PyData} {s t:Nat}:qY x=true→Stm (.tuple [.str "let",.str x,a]) s t
 | if_ {a:PyData} {xs ys:List PyData} {s t s1 t1 s2 t2:Nat}:xs.length≤12→ys.length≤12→Trl xs s1 t1→Trl ys s2 t2→s1+s2<s→t1<t→t2<t→Stm (.tuple [.str "if",a,.tuple xs,.tuple ys]) s t
 | while_ {a:PyData} {xs:List PyData} {s t s1 t1:Nat}:xs.length≤12→Trl xs s1 t1→s1<s→t1<t→Stm (.tuple [.str "while",a,.tuple xs]) s t
 | try_ {b c:Str} {xs ys zs:List PyData} {s t s1 t1 s2 t2 s3 t3:Nat}:qY c=true→xs.length≤12→ys.length≤12→zs.length≤12→Trl xs s1 t1→Trl ys s2 t2→Trl zs s3 t3→s1+s2+s3<s→t1<t→t2<t→t3<t→Stm (.tuple [.str "try",.tuple xs,.str b,.str c,.tuple ys,.tuple zs]) s t
 | else_ {hd:Str} {ts:List PyData} {s t:Nat}:hd≠"let"→hd≠"if"→hd≠"while"→hd≠"try"→ts≠[]→Stm (.tuple (.str hd::ts)) s t
theorem v0 {d:PyData} (h:qA d "body"=true):∃ xs,d= .tuple xs∧xs.length≤12:=by
 rw [jc] at h;cases d with
 | tuple xs=>exact ⟨xs,rfl,Ay h⟩
 | _=>cases h
theorem WP {d:PyData} (h:qA d "name"=true):∃ x,d= .str x∧qY x=true:=by
 rw [zS] at h;cases d with
 | str x=>exact ⟨x,rfl,h⟩
 | _=>cases h
theorem vT {u:Str} (xs:List PyData):(xs.map fun x=>(x,u)).map (·.1)=xs:=by
 rw [Bu];exact Eu _
theorem wa {d:PyData} {s t:Nat} (h:Tr d s t):Stm d s t:=by
 cases h with
 | @mk _ sh hands s0 t0 hf tl=>
  obtain ⟨hd,ts,fs,l,rfl,_,_,e,_,hl,hs,_⟩:=qV hf;have ek:zm (.tuple (.str hd::ts))=((ts.zip fs).flatMap fun p=>ql p.1 p.2).map (·.1):=by unfold zm;rw [qW e]
  rw [ek] at tl
  by_cases h1:hd="let"
  ·subst h1;have e2:forms.lookup ("let":Str)=some (["name","term"]:List Str):=∅;cases e.symm.trans e2
   match ts,hl,hs,tl with
   | [a,b],_,hs,tl=>
    obtain ⟨x,rfl,hx⟩:=WP (hs (a,"name") (by simp))
    exact .let_ hx
  by_cases h2:hd="if"
  ·subst h2;have e2:forms.lookup ("if":Str)=some (["term","body","body"]:List Str):=∅;cases e.symm.trans e2
   match ts,hl,hs,tl with
   | [a,b,c],_,hs,tl=>
    obtain ⟨xs,rfl,hx⟩:=v0 (hs (b,"body") (by simp))
    obtain ⟨ys,rfl,hy⟩:=v0 (hs (c,"body") (by simp))
    replace tl:Trl ((ql a "term"++(ql (.tuple xs) "body"++(ql (.tuple ys) "body"++[]))).map Prod.fst) s0 t0:=tl
    rw [zU,zI,zI,An,An,A6,vT,vT] at tl;obtain ⟨s1,t1,s2,t2,p,q,e3,l1,l2⟩:=tl.split;obtain ⟨s3,t3,s4,t4,p2,q2,e4,l3,l4⟩:=q.split;exact .if_ hx hy p2 q2 ⋯ ⋯ ⋯
  by_cases h3:hd="while"
  ·subst h3;have e2:forms.lookup ("while":Str)=some (["term","body"]:List Str):=∅;cases e.symm.trans e2
   match ts,hl,hs,tl with
   | [a,b],_,hs,tl=>
    obtain ⟨xs,rfl,hx⟩:=v0 (hs (b,"body") (by simp))
    replace tl:Trl ((ql a "term"++(ql (.tuple xs) "body"++[])).map Prod.fst) s0 t0:=tl
    rw [zU,zI,An,A6,vT] at tl;obtain ⟨s1,t1,s2,t2,p,q,e3,l1,l2⟩:=tl.split;exact .while_ hx q ⋯ ⋯
  by_cases h4:hd="try"
  ·subst h4;have e2:forms.lookup ("try":Str)=some (["body","name","name","body","body"]:List Str):=∅;cases e.symm.trans e2
   match ts,hl,hs,tl with
   | [a,b,c,g,k],_,hs,tl=>
    obtain ⟨xs,rfl,hx⟩:=v0 (hs (a,"body") (by simp))
    obtain ⟨b,rfl,_⟩:=WP (hs (b,"name") (by simp))
    obtain ⟨c,rfl,hc⟩:=WP (hs (c,"name") (by simp))
    obtain ⟨ys,rfl,hy⟩:=v0 (hs (g,"body") (by simp))
    obtain ⟨zs,rfl,hz⟩:=v0 (hs (k,"body") (by simp))
    replace tl:Trl ((ql (.tuple xs) "body"++(ql (.str b) "name"++(ql (.str c) "name"++(ql (.tuple ys) "body"++(ql (.tuple zs) "body"++[]))))).map Prod.fst) s0 t0:=tl
    rw [zI,zI,zI,zL (sh:="name") ∅,zL (sh:="name") ∅,Bw,Bw,An,An,A6,vT,vT,vT] at tl;obtain ⟨s1,t1,s2,t2,p,q,e3,l1,l2⟩:=tl.split;obtain ⟨s3,t3,s4,t4,p2,q2,e4,l3,l4⟩:=q.split;exact .try_ hc hx hy hz p p2 q2 ⋯ ⋯ ⋯ ⋯
  refine .else_ h1 h2 h3 h4 fun z=>?_;subst z;have all:∀ p∈forms,p.2≠[]:=by
   have q:(forms.all fun p=>decide (p.2≠[]))=true:=∅;exact fun p hp=>Ay (A3.mp q p hp)
  have:=all _ (Bk e);cases fs with
  | nil=>exact this rfl
  | cons _ _=>cases hl
theorem XU {hd:Str} {ts:List PyData} (h1:hd≠"let") (h2:hd≠"if") (h3:hd≠"while") (h4:hd≠"try"):brS (.tuple (.str hd::ts))=[]:=by
 refine qhk (Bc.mpr h1) ?_;unfold vG;rw [Bc.mpr h2,Bc.mpr h3,Bc.mpr h4];rfl
theorem qjv {n:Nat} (IH:∀ {xs:List PyData} {s t:Nat},Trl xs s t→t≤n→(brL xs).length≤s) {x:PyData} {s0 t0:Nat} (h1:Tr x s0 t0) (ht:t0≤n+1):(brS x).length≤s0:=by
 have pos:0<s0:=by cases h1;omega
 cases wa h1 with
 | let_ _=>rw [Q4];exact pos
 | if_ _ _ p q e l1 l2=>
  have:=IH p ⋯;have:=IH q ⋯;rw [qfn,Ac];omega
 | while_ _ p e l1=>
  have:=IH p ⋯;rw [yS];omega
 | try_ _ _ _ _ p q r e l1 l2 l3=>
  have:=IH p ⋯;have:=IH q ⋯;have:=IH r ⋯;rw [Q3,Ac,Aj,Ac];omega
 | else_ k1 k2 k3 k4 _=>
  rw [XU k1 k2 k3 k4];exact Bm _
theorem qfo {m:Nat} (E:∀ {x:PyData} {s t:Nat},Tr x s t→t≤m→(brS x).length≤s):∀ {xs:List PyData} {s t:Nat},Trl xs s t→t≤m→(brL xs).length≤s
 | [],_,_,_,_=>by
  rw [brL];exact Bm _
 | x::r,_,_,.cons h1 h2,ht=>by
  rw [brL,Ac];exact Nat.add_le_add (E h1 (Av (Nat.le_max_left _ _) ht)) (qfo E h2 (Av (Nat.le_max_right _ _) ht))
theorem yT:∀ (n:Nat) {xs:List PyData} {s t:Nat},Trl xs s t→t≤n→(brL xs).length≤s
 | 0,xs,s,t,h,ht=>by
  have:t=0:=⋯;subst this;cases h.zero;exact Bm _
 | n+1,_,_,_,h,ht=>qfo (qjv (yT n)) h ht
theorem ye {hd:Str} {ts:List PyData} {s t:Nat} (h:Tr (.tuple (.str hd::ts)) s t) (hh:hd="name"∨hd="set"):∃ x r,ts= .str x::r∧qY x=true∧own (.tuple (.str hd::ts))=[x]:=by
 cases h with
 | @mk _ sh hands s0 t0 hf tl=>
  obtain ⟨_,_,fs,l,e0,_,_,e,_,hl,hs,_⟩:=qV hf;cases e0;have e2:∃ q,fs=("name":Str)::q:=by
   rcases hh with rfl | rfl
   ·exact ⟨[],Be (e.symm.trans ∅)⟩
   ·exact ⟨["term"],Be (e.symm.trans ∅)⟩
  obtain ⟨q,rfl⟩:=e2;cases ts with
  | nil=>cases hl
  | cons a r=>
   obtain ⟨x,rfl,hx⟩:=WP (hs (a,"name") (by simp))
   refine ⟨x,r,rfl,hx,?_⟩;show (if _ then _ else _)=_
   rw [if_pos (by rw [B4,Ax,Ax];exact hh)]
   rfl
theorem yf {hd:Str} {ts:List PyData} (hh:¬ (hd="name"∨hd="set")):own (.tuple (.str hd::ts))=[]:=by
 cases ts with
 | nil=>rfl
 | cons a r=>
  show (if _ then _ else _)=_
  rw [if_neg (by rw [B4,Ax,Ax];exact hh)]
theorem YX (hd:Str) (ts:List PyData):XL (.tuple (.str hd::ts))=(hd=="fun"||hd=="loop"):=rfl
def qbk (h:Str) (k:Nat) (t:PyData):List Str:=(if h=="try"&&k==3 then [txt t] else [])++(if vG h&&(jn t&&(decide (1<k)||h=="try")) then brB t else [])
theorem Y5 (h:Str) (t:PyData):∀ (l:List PyData) (k:Nat),zB h k (l++[t])=zB h k l++qbk h (k+l.length) t
 | [],k=>by
  rw [Bw,zB,zB,zB,Bw,A6];rfl
 | y::r,k=>by
  rw [C5,zB,zB,Y5 h t r (k+1),B6,B6,Aj]
  congr 3
  rw [show k+1+r.length=k+(r.length+1) from ⋯]
theorem Wm (h:Str) (b:List PyData):∀ (a:List PyData) (k:Nat),zB h k (a++b)=zB h k a++zB h (k+a.length) b
 | [],k=>by
  rw [Bw,zB,Bw];rfl
 | y::r,k=>by
  rw [C5,zB,zB,Wm h b r (k+1),B6,B6,Aj,show k+1+r.length=k+(r.length+1) from ⋯]
theorem qjz {hd:Str} {ts xs:List PyData} {s t j:Nat} (h:Tr (.tuple (.str hd::ts)) s t) (hc:vG hd=true) (hj:ts[j]?=some (.tuple xs)) (hk:0<j∨hd="try"):∃ s' t',Trl xs s' t'∧s'≤s∧t'<t:=by
 have no:∀ {a b:Str},a≠b→¬ a=b:=fun h=>h;have st:=wa h;generalize hd':PyData.tuple (.str hd::ts)=d at st;cases st with
 | let_ _=>cases hd';exact absurd hc ∅
 | if_ _ _ p q e l1 l2=>
  cases hd'
  match j,hj with
  | 0,hj=>rcases hk with hk | hk <;> first | omega | exact absurd hk ∅
  | 1,hj=>cases hj;exact ⟨_,_,p,⋯,⋯⟩
  | 2,hj=>cases hj;exact ⟨_,_,q,⋯,⋯⟩
  | j+3,hj=>simp at hj
 | while_ _ p e l1=>
  cases hd'
  match j,hj with
  | 0,hj=>rcases hk with hk | hk <;> first | omega | exact absurd hk ∅
  | 1,hj=>cases hj;exact ⟨_,_,p,⋯,⋯⟩
  | j+2,hj=>simp at hj
 | try_ _ _ _ _ p q r e l1 l2 l3=>
  cases hd'
  match j,hj with
  | 0,hj=>cases hj;exact ⟨_,_,p,⋯,⋯⟩
  | 1,hj=>cases hj
  | 2,hj=>cases hj
  | 3,hj=>cases hj;exact ⟨_,_,q,⋯,⋯⟩
  | 4,hj=>cases hj;exact ⟨_,_,r,⋯,⋯⟩
  | j+5,hj=>simp at hj
 | else_ k1 k2 k3 k4 _=>
  cases hd';unfold vG at hc;rw [Bc.mpr k2,Bc.mpr k3,Bc.mpr k4] at hc;cases hc
theorem qbv {ts:List PyData} {s t:Nat} (h:Tr (.tuple (.str "try"::ts)) s t):∃ c,ts[2]?=some (.str c):=by
 have st:=wa h;generalize hd':PyData.tuple (.str "try"::ts)=d at st;cases st with
 | let_ _=>cases hd'
 | if_ _ _ p q e l1 l2=>cases hd'
 | while_ _ p e l1=>cases hd'
 | try_ _ _ _ _ p q r e l1 l2 l3=>cases hd';exact ⟨_,rfl⟩
 | else_ k1 k2 k3 k4 _=>cases hd';exact absurd rfl k4
theorem qcn {ts:List PyData} {s t:Nat} (h:Tr (.tuple (.str "let"::ts)) s t):∃ x r,ts= .str x::r:=by
 have st:=wa h;generalize hd':PyData.tuple (.str "let"::ts)=d at st;cases st with
 | let_ _=>cases hd';exact ⟨_,_,rfl⟩
 | if_ _ _ p q e l1 l2=>cases hd'
 | while_ _ p e l1=>cases hd'
 | try_ _ _ _ _ p q r e l1 l2 l3=>cases hd'
 | else_ k1 k2 k3 k4 _=>cases hd';exact absurd rfl k1
theorem qdx {hd:Str} {ts:List PyData} {s t:Nat} (h:Tr (.tuple (.str hd::ts)) s t):ts≠[]∧ts.length≤5:=by
 cases h with
 | @mk _ sh hands s0 t0 hf tl=>
  obtain ⟨_,_,fs,l,e0,_,_,e,h5,hl,hs,_⟩:=qV hf;cases e0;refine ⟨fun z=>?_,⋯⟩;subst z;have all:∀ p∈forms,p.2≠[]:=by
   have q:(forms.all fun p=>decide (p.2≠[]))=true:=∅;exact fun p hp=>Ay (A3.mp q p hp)
  have:=all _ (Bk e);cases fs with
  | nil=>exact this rfl
  | cons _ _=>cases hl
theorem Tr.el {G:Prop} {d:PyData} {s t:Nat} (h:Tr d s t) (k:∀ sh hands s0 t0,s=s0+1→t=t0+1→qK d sh hands=true→Trl (zm d) s0 t0→G):G:=by
 cases h with
 | mk h l=>exact k _ _ _ _ rfl rfl h l
theorem WR {G:Prop} {d:PyData} {sh:Str} {hands:Bool} (h:qK d sh hands=true) (k:∀ hd ts,d= .tuple (.str hd::ts)→G):G:=by
 obtain ⟨hd,ts,_,_,e,_⟩:=qV h;exact k hd ts e
theorem Pt.el {G:Prop} {d:PyData} {sh:Str} {hands:Bool} {s t:Nat} (h:Pt d sh hands s t) (k:∀ s0 t0,s=s0+1→t=t0+1→qK d sh hands=true→Ptl (zi d) (j5 d hands) s0 t0→G):G:=by
 cases h with
 | mk h l=>exact k _ _ rfl rfl h l
theorem Ptl.el {G:Prop} {d:PyData} {u:Str} {r:List (PyData×Str)} {hands:Bool} {s t:Nat} (h:Ptl ((d,u)::r) hands s t) (k:∀ s1 t1 s2 t2,s=s1+s2→t=max t1 t2→Pt d u hands s1 t1→Ptl r hands s2 t2→G):G:=by
 cases h with
 | cons h l=>exact k _ _ _ _ rfl rfl h l
end Tre
namespace Nam
open PySem
def one (c:Nat):Str:=⟨#[c]⟩
def low (c:Nat):Bool:=decide (97≤c)&&decide (c≤122)
def wrd (cs:List Nat):Str:=⟨cs.toArray⟩
theorem qac {a b:List Nat} (h:wrd a=wrd b):a=b:=by
 have e:(wrd a).cps=(wrd b).cps:=by rw [h]
 exact congrArg Array.toList e
theorem qfw (cs:List Nat):(wrd cs).length=cs.length:=by simp [wrd,Str.length]
theorem YU:∀ cs:List Nat,(Str.join (Str.ofString "") (cs.map one)).cps.toList=cs
 | []=>∅
 | [c]=>rfl
 | c::d::r=>by
  have ih:=YU (d::r);rw [Ba] at ih;show ((one c)++Str.ofString ""++Str.join (Str.ofString "") (one d::r.map one)).cps.toList=_;have e:∀ a b:Str,(a++b).cps.toList=a.cps.toList++b.cps.toList:=fun a b=>by
   show (a.cps++b.cps).toList=_;simp
  rw [e,e,ih];rfl
theorem ZU (cs:List Nat):Txt.join (Str.ofString "") (cs.map one)=wrd cs:=by
 rw [Ax.mp (PyProof.Rows.join_plain_closes (Str.ofString "") _)];have h:=YU cs;generalize Str.join (Str.ofString "") (cs.map one)=x at h;cases x with
 | mk a=>subst h;rfl
theorem ZF (cs:List Nat):((cs.map one).map (·.length)).sum=cs.length:=by
 induction cs with
 | nil=>rfl
 | cons c r ih=>
  rw [Ba,Ba,D3,ih,Aj];show 1+_=_;omega
theorem ZQ {cs:List Nat} (h1:1≤cs.length) (h8:cs.length≤8) (h:cs.all low=true):Tre.qY (wrd cs)=true:=by
 unfold Tre.qY;rw [qfw,Ak h1,Ak h8];exact h
theorem wl {α β:Type} (f:α→β):∀ {l:List α},l.Nodup→(∀ a∈l,∀ b∈l,f a=f b→a=b)→(l.map f).Nodup
 | [],_,_=>E2
 | x::r,h,hi=>by
  rw [Db] at h;rw [Ba,Db];refine ⟨fun hm=>?_,wl f h.2 fun a ha b hb=>hi a (Am _ ha) b (Am _ hb)⟩;obtain ⟨y,hy,e⟩:=By.mp hm;have:=hi y (Am _ hy) x Au e;exact h.1 (this▸hy)
theorem qjy (cs:List Nat) (h:cs.length=8):((List.range 8).map fun k=>wrd (cs.take (k+1))).Nodup:=by
 refine wl _ List.nodup_range fun a ha b hb e=>?_;have e1:=congrArg List.length (qac e);rw [Cr,Cr] at e1;have:=Dg.mp ha;have:=Dg.mp hb;omega
theorem qlc (cs:List Nat) (j z:Nat) (g:Nat→Nat) (hj:j<z) (hz:z≤cs.length) (hg:∀ a b,a<8→b<8→g a=g b→a=b):((List.range 8).map fun k=>wrd ((cs.set j (g k)).take z)).Nodup:=by
 refine wl _ List.nodup_range fun a ha b hb e=>?_;have e1:=qac e;have e2:((cs.set j (g a)).take z)[j]?=((cs.set j (g b)).take z)[j]?:=by rw [e1]
 rw [List.getElem?_take,List.getElem?_take,if_pos hj,if_pos hj,List.getElem?_set,List.getElem?_set,if_pos rfl,if_pos rfl,if_pos ⋯,if_pos ⋯] at e2;exact hg a b (Dg.mp ha) (Dg.mp hb) (Be e2)
end Nam
namespace Mine
open PySem L2
def top (i:Nat):Stmt:=PySem.Challenge.pw_waitloom_k09_names_refused.main.body.getD i (.Pass ⟨0,0,0,0⟩)
abbrev W7:Stmt:=XM (top 4) 0
theorem qb4:FnScope ["self","name"] ["self","name"] (qj W7):=⟨rfl,rfl,rfl,∅,rfl,∅,∅⟩
abbrev vO:Stmt:=top 20
theorem QF:FnScope ["thing"] ["thing"] (qj vO):=⟨rfl,rfl,rfl,∅,rfl,∅,∅⟩
abbrev vt:Stmt:=top 21
theorem Xk:FnScope ["thing"] ["thing"] (qj vt):=⟨rfl,rfl,rfl,∅,rfl,∅,∅⟩
abbrev W5:Stmt:=top 22
theorem qb2:FnScope ["thing","most"] ["thing","most"] (qj W5):=⟨rfl,rfl,rfl,∅,rfl,∅,∅⟩
abbrev JA:Stmt:=top 23
theorem Xm:FnScope ["thing"] ["thing"] (qj JA):=⟨rfl,rfl,rfl,∅,rfl,∅,∅⟩
abbrev vw:Stmt:=top 24
theorem Xl:FnScope ["thing","shape"] ["thing","shape"] (qj vw):=⟨rfl,rfl,rfl,∅,rfl,∅,∅⟩
abbrev J3:Stmt:=top 25
theorem vp:FnScope ["thing","shape","hands","head","shapes"] ["thing","shape","hands"] (qj J3):=⟨rfl,rfl,rfl,∅,rfl,∅,∅⟩
abbrev zK:Stmt:=top 26
theorem zE:FnScope ["part","found","thing","shape"] ["part"] (qj zK):=⟨rfl,rfl,rfl,∅,rfl,∅,∅⟩
abbrev Jq:Stmt:=top 27
theorem Wo:FnScope ["part","hands"] ["part","hands"] (qj Jq):=⟨rfl,rfl,rfl,∅,rfl,∅,∅⟩
abbrev Je:Stmt:=top 28
theorem qT:FnScope ["thing","level","depth","size","below","part","shape","hands","within"] ["thing"] (qj Je):=⟨rfl,rfl,rfl,∅,rfl,∅,∅⟩
abbrev Jn:Stmt:=top 29
theorem Wn:FnScope ["thing"] ["thing"] (qj Jn):=⟨rfl,rfl,rfl,∅,rfl,∅,∅⟩
abbrev J2:Stmt:=top 30
theorem Zx:FnScope ["part"] ["part"] (qj J2):=⟨rfl,rfl,rfl,∅,rfl,∅,∅⟩
abbrev jD:Stmt:=top 33
theorem zt:FnScope ["program","found","ahead","pair","part","outer"] ["program"] (qj jD):=⟨rfl,rfl,rfl,∅,rfl,∅,∅⟩
abbrev Jf:Stmt:=top 34
theorem jR:FnScope ["body","found","statement","head"] ["body"] (qj Jf):=⟨rfl,rfl,rfl,∅,rfl,∅,∅⟩
abbrev Vn:Stmt:=top 35
theorem Zv:FnScope ["params","body"] ["params","body"] (qj Vn):=⟨rfl,rfl,rfl,∅,rfl,∅,∅⟩
abbrev we:Stmt:=top 36
theorem JX:FnScope ["body","found","ahead","part"] ["body"] (qj we):=⟨rfl,rfl,rfl,∅,rfl,∅,∅⟩
abbrev W6:Stmt:=XM (top 37) 0
theorem qb3:FnScope ["self","function"] ["self","function"] (qj W6):=⟨rfl,rfl,rfl,∅,rfl,∅,∅⟩
abbrev j6:Stmt:=XM (top 37) 1
theorem wc:FnScope ["self"] ["self"] (qj j6):=⟨rfl,rfl,rfl,∅,rfl,∅,∅⟩
abbrev Vm:Stmt:=top 38
theorem Wa:FnScope ["scopes","number","name"] ["scopes","number","name"] (qj Vm):=⟨rfl,rfl,rfl,∅,rfl,∅,∅⟩
abbrev Jm:Stmt:=top 39
theorem jo:FnScope ["scopes","number","told","name"] ["scopes","number"] (qj Jm):=⟨rfl,rfl,rfl,∅,rfl,∅,∅⟩
abbrev vq:Stmt:=top 40
theorem JY:FnScope ["scopes","number","name","owner"] ["scopes","number","name"] (qj vq):=⟨rfl,rfl,rfl,∅,rfl,∅,∅⟩
abbrev jV:Stmt:=top 41
theorem jh:FnScope ["program","scopes","number","scope","name"] ["program"] (qj jV):=⟨rfl,rfl,rfl,∅,rfl,∅,∅⟩
abbrev JI:Stmt:=top 43
theorem W4:FnScope ["_law_script","_law_k"] ["_law_script","_law_k"] (qj JI):=⟨rfl,rfl,rfl,∅,rfl,∅,∅⟩
abbrev Vp:Stmt:=top 44
theorem vo:FnScope ["_law_state","_law_k","_law_cell"] ["_law_state"] (qj Vp):=⟨rfl,rfl,rfl,∅,rfl,∅,∅⟩
abbrev jW:Stmt:=top 45
theorem ji:FnScope ["_law_cell","_law_many","_law_letters","_law_size","_law_word","_law_made","_law_k"] ["_law_cell","_law_many"] (qj jW):=⟨rfl,rfl,rfl,∅,rfl,∅,∅⟩
abbrev J0:Stmt:=top 46
theorem Vb:FnScope ["_law_more","_law_far"] ["_law_more"] (qj J0):=⟨rfl,rfl,rfl,∅,rfl,∅,∅⟩
abbrev Jo:Stmt:=top 47
theorem zR:FnScope ["_law_state","_law_deep","_law_number_here","_law_kind","_law_more","_law_names_here","_law_params","_law_maker"] ["_law_state","_law_deep"] (qj Jo):=⟨rfl,rfl,rfl,∅,rfl,∅,∅⟩
abbrev Jp:Stmt:=top 48
theorem Zw:FnScope ["_law_state","_law_deep","_law_may_hand"] ["_law_state","_law_deep","_law_may_hand"] (qj Jp):=⟨rfl,rfl,rfl,∅,rfl,∅,∅⟩
abbrev zV:Stmt:=top 49
theorem qU:FnScope ["_law_state","_law_deep","_law_may_hand","_law_number_here","_law_kind","_law_name","_law_word","_law_test","_law_bodies"] ["_law_state","_law_deep","_law_may_hand"] (qj zV):=⟨rfl,rfl,rfl,∅,rfl,∅,∅⟩
abbrev JH:Stmt:=top 50
theorem jA:FnScope ["_law_script","_law_most","_law_names_here","_law_state","_law_body_here"] ["_law_script","_law_most"] (qj JH):=⟨rfl,rfl,rfl,∅,rfl,∅,∅⟩
abbrev Jz:Stmt:=top 51
theorem jB:FnScope ["_law_part","_law_found","_law_thing","_law_is_part"] ["_law_part"] (qj Jz):=⟨rfl,rfl,rfl,∅,rfl,∅,∅⟩
abbrev jS:Stmt:=top 52
theorem jd:FnScope ["_law_body_here","_law_found","_law_one","_law_k"] ["_law_body_here"] (qj jS):=⟨rfl,rfl,rfl,∅,rfl,∅,∅⟩
abbrev JZ:Stmt:=top 53
theorem Jy:FnScope ["_law_part","_law_found","_law_inner_here"] ["_law_part"] (qj JZ):=⟨rfl,rfl,rfl,∅,rfl,∅,∅⟩
abbrev jC:Stmt:=top 54
theorem zq:FnScope ["_law_part","_law_number_here","_law_found","_law_inner_here","_law_here","_law_uses","_law_one"] ["_law_part","_law_number_here","_law_found"] (qj jC):=⟨rfl,rfl,rfl,∅,rfl,∅,∅⟩
abbrev wf:Stmt:=top 55
theorem Jl:FnScope ["_law_program_here","_law_uses","_law_one","_law_found"] ["_law_program_here"] (qj wf):=⟨rfl,rfl,rfl,∅,rfl,∅,∅⟩
abbrev J1:Stmt:=top 56
theorem Vc:FnScope ["_law_rows","_law_number_here","_law_name"] ["_law_rows","_law_number_here","_law_name"] (qj J1):=⟨rfl,rfl,rfl,∅,rfl,∅,∅⟩
abbrev zM:Stmt:=top 57
theorem zD:FnScope ["_law_rows","_law_number_here","_law_names_here","_law_twice","_law_lost"] ["_law_rows"] (qj zM):=⟨rfl,rfl,rfl,∅,rfl,∅,∅⟩
abbrev Vo:Stmt:=top 58
theorem vn:FnScope ["_law_program_here","e","_law_others"] ["_law_program_here"] (qj Vo):=⟨rfl,rfl,rfl,∅,rfl,∅,∅⟩
abbrev Wb:Stmt:=top 59
theorem Vl:FnScope ["_law_script","_law_most","_law_program_here","_law_kept","_law_rows","_law_wrong","_law_due"] ["_law_script"] (qj Wb):=⟨rfl,rfl,rfl,∅,rfl,∅,∅⟩
structure Ad where
 LoomError:Addr
 BadTree:Addr
 BadText:Addr
 BadName:Addr
 BadCount:Addr
 BadCode:Addr
 NoThing:Addr
 Scope:Addr
structure Cs (K:Frag) (mg:Str→Option Value) (ad:Ad):Prop where
 all_:mg "all"=none
 isinstance_:mg "isinstance"=none
 str_:mg "str"=none
 len_:mg "len"=none
 bool_:mg "bool"=none
 int_:mg "int"=none
 tuple_:mg "tuple"=none
 set_:mg "set"=none
 zip_:mg "zip"=none
 reversed_:mg "reversed"=none
 list_:mg "list"=none
 sorted_:mg "sorted"=none
 range_:mg "range"=none
 enumerate_:mg "enumerate"=none
 max_:mg "max"=none
 ValueError_:mg "ValueError"=none
 MOST_LETTERS:∃ u,mg "MOST_LETTERS"=some u∧qM (.int 8) u
 GREATEST_NUMBER:∃ u,mg "GREATEST_NUMBER"=some u∧qM (.int 1000000000000) u
 MOST_NAMES:∃ u,mg "MOST_NAMES"=some u∧qM (.int 4) u
 MOST_TERMS:∃ u,mg "MOST_TERMS"=some u∧qM (.int 4) u
 MOST_STATEMENTS:∃ u,mg "MOST_STATEMENTS"=some u∧qM (.int 12) u
 MOST_DEPTH:∃ u,mg "MOST_DEPTH"=some u∧qM (.int 20) u
 MOST_PARTS:∃ u,mg "MOST_PARTS"=some u∧qM (.int 300) u
 m_LoomError:mg "LoomError"=some (.ref ad.LoomError)
 m_BadTree:mg "BadTree"=some (.ref ad.BadTree)
 m_BadText:mg "BadText"=some (.ref ad.BadText)
 m_BadName:mg "BadName"=some (.ref ad.BadName)
 m_BadCount:mg "BadCount"=some (.ref ad.BadCount)
 m_BadCode:mg "BadCode"=some (.ref ad.BadCode)
 m_NoThing:mg "NoThing"=some (.ref ad.NoThing)
 m_Scope:mg "Scope"=some (.ref ad.Scope)
 o_BadTree:qj2 K ad.BadTree
 k_BadName:XK1 K ad.BadName
 xs_BadName:XSet K ad.BadName "name"
 xg_BadName:XGet K ad.BadName "name"
 bi:BIni K ad.LoomError
 e1:PySem.W.exmOne K (.ref ad.BadName) (.ref ad.LoomError)=some true
 i1:PySem.W.kitAny K (.ref ad.BadName) [.ref ad.BadTree,.ref ad.BadText,.ref ad.BadCount]=some false
 i2:PySem.W.kitAny K (.ref ad.BadName) [.ref ad.BadCode,.ref ad.NoThing]=some false
 i3:PySem.W.kitOne K (.ref ad.BadName) (.ref ad.BadName)=some true
 i4:PySem.W.kitOne K (.ref ad.BadName) (.type "ValueError")=some true
 cl:Cls K ad.Scope
 aK:PySem.W.findIn K (.ref ad.Scope) "kind"=some none
 aO:PySem.W.findIn K (.ref ad.Scope) "outer"=some none
 aN:PySem.W.findIn K (.ref ad.Scope) "names"=some none
 aU:PySem.W.findIn K (.ref ad.Scope) "used"=some none
 aB:PySem.W.findIn K (.ref ad.Scope) "boxed"=some none
 aT:PySem.W.findIn K (.ref ad.Scope) "taken"=some none
 mkC:PySem.W.makesIn K ad.Scope=true
 kc:PySem.W.keepIn K (.ref ad.Scope)=true
theorem Cs.v_LoomError {K:Frag} {mg:Str→Option Value} {ad:Ad} (c:Cs K mg ad):∃ u,mg "LoomError"=some u∧qM (.ref ad.LoomError) u:=⟨_,c.m_LoomError,rfl⟩
theorem Cs.v_BadTree {K:Frag} {mg:Str→Option Value} {ad:Ad} (c:Cs K mg ad):∃ u,mg "BadTree"=some u∧qM (.ref ad.BadTree) u:=⟨_,c.m_BadTree,rfl⟩
theorem Cs.v_BadText {K:Frag} {mg:Str→Option Value} {ad:Ad} (c:Cs K mg ad):∃ u,mg "BadText"=some u∧qM (.ref ad.BadText) u:=⟨_,c.m_BadText,rfl⟩
theorem Cs.v_BadName {K:Frag} {mg:Str→Option Value} {ad:Ad} (c:Cs K mg ad):∃ u,mg "BadName"=some u∧qM (.ref ad.BadName) u:=⟨_,c.m_BadName,rfl⟩
theorem Cs.v_BadCount {K:Frag} {mg:Str→Option Value} {ad:Ad} (c:Cs K mg ad):∃ u,mg "BadCount"=some u∧qM (.ref ad.BadCount) u:=⟨_,c.m_BadCount,rfl⟩
theorem Cs.v_BadCode {K:Frag} {mg:Str→Option Value} {ad:Ad} (c:Cs K mg ad):∃ u,mg "BadCode"=some u∧qM (.ref ad.BadCode) u:=⟨_,c.m_BadCode,rfl⟩
theorem Cs.v_NoThing {K:Frag} {mg:Str→Option Value} {ad:Ad} (c:Cs K mg ad):∃ u,mg "NoThing"=some u∧qM (.ref ad.NoThing) u:=⟨_,c.m_NoThing,rfl⟩
structure Tb (P:Program) (w:World) (K:Frag) (mg:Str→Option Value):Prop where
 SIGNS:∃ a,mg "SIGNS"=some (.ref a)∧∀ H:Hp,SqT K H a (Tre.VR.map V.str)
 FORMS:KTabT P w K mg "FORMS" Tre.forms
 HEADS:KTabT P w K mg "HEADS" Tre.heads
 MEMBERS:KTabS P w K mg "MEMBERS" Tre.JC
inductive spD (K:Frag) (f:PyData→Bool) (vs:List V) (H:Hp) (Q:VK) (E':XK):Prop
 | mk:∀ x d,(vs=[x])→(Rep K H x d)→(Tre.fit d=true)→(∀ H',qw H H'→Q (.bl (f d)) H')→spD K f vs H Q E'
theorem qe {H:Hp} {p:Addr} (h:H p=none) (o:HO):qw H (upd H p o):=fun b u q=>by rw [qm (qx q h)];exact q
theorem qk4 (c:Nat):(!decide (([c]:List Nat)<[97]))=decide (97≤c):=by
 rw [Cc];simp [List.cons_lt_cons_iff]
theorem le_z (c:Nat):(!decide (([122]:List Nat)<[c]))=decide (c≤122):=by
 rw [Cc];simp [List.cons_lt_cons_iff]
theorem qg4 {n:Nat} (h:n≤1000000):n≤sizeLine:=Av h O0
section
variable {P:Program} {w:World} {K:Frag} {mg:Str→Option Value} {base:Heap} {f:Addr} {fd:FuncData} {ad:Ad}
theorem QQ (F:Fun K "is_name" "is_name" vO f fd) (c:Cs K mg ad):FnOk P w K mg base CX0 1 f fd ["thing"] (spD K Tre.zh):=by
 refine F.ok QF (fun vs H Q E h=>?_) (fun cdv A outer s H vs Q E hr h=>?_)
 ·obtain ⟨x,d,rfl,_⟩:=h;rfl
 obtain ⟨x,d,rfl,hk,ft,q⟩:=h;refine ⟨_,(qf (qN (PW.pt (ve (jM (zZ (qz (j7 (K:=K) rfl) (by rfl) c.isinstance_ qJ (qb (pv 0) (qb (JQ c.str_ wy) qc))))) (JK (jM (qeh ZE ZE qh (qz (jw (K:=K) rfl) (by rfl) c.len_ zJ (qb (pv 0) qc)) (Vs c.MOST_LETTERS)))))) (qi (qy jZ)) qB)
   (qi (qy (qz (qfp (K:=K) rfl rfl) (by rfl) c.all_ Q2 (qb (jk (sc:=qj vO) (NX:=["thing"]) (N:=["letter"]) (js:=[none]) (JP (K:=K) rfl (pv 0)) (fun _ _ _ _ _=>(zn (i:=0) (show (["letter"]:List Str).Nodup from ∅) rfl (Or.inl rfl))) (fun _ _ _ _ _=>jE) (fun _ _ _ _ _=>(ZC YO YO qp (pv 0) qp)) (zF rfl) ⟨∅,rfl,∅,∅,rfl,∅⟩) qc))))),?_⟩
 refine ⟨_,rfl,x,d,"str",rfl,hk,O0,?_⟩;cases hk with
 | str x=>
  refine ⟨_,rfl,ZW ?_⟩;have hx:x.length≤sizeLine:=qg4 (by simpa [Tre.fit] using ft)
  refine ⟨_,rfl,_,_,rfl,⟨hx,rfl⟩,_,_,rfl,rfl,_,rfl,?_⟩;have hl:x.length=x.cps.toList.length:=by simp [Str.length]
  refine v1 (fun c1=>?_) (fun c1=>?_)
  ·have c1':(1:Int)≤(x.length:Int):=Ay c1;refine ⟨_,_,rfl,rfl,_,rfl,?_⟩;refine v1 (fun c2=>?_) (fun c2=>?_)
   ·have c2':¬ ((x.length:Int)≤8):=by simpa using c2
    have e:Tre.zh (.str x)=false:=by
     simp only [Tre.zh,Tre.qY];rw [As (show ¬ x.length≤8 from ⋯)];simp
    have q':=q H (qw.refl _);rw [e] at q';exact q'
   ·have c2':(x.length:Int)≤8:=by simpa using c2
    have hsz:x.cps.size=x.cps.toList.length:=by simp
    refine ⟨_,rfl,.inr (.inr ⟨x,rfl,zG x.cps.size (fun i ys H'=>H'=H∧ys=(x.cps.toList.take i).map fun c=>V.bl (decide (97≤c)&&decide (c≤122))) ⟨rfl,rfl⟩ (fun i ys H' h=>?_) (by rw [hsz,← hl];exact hx) (fun i ys H' hi h=>?_) (fun ys H' h=>?_)⟩)⟩
    ·obtain ⟨_,rfl⟩:=h;rw [Ab];exact Bv _ _
    ·obtain ⟨rfl,rfl⟩:=h;refine ⟨hi,fun v H2 hy=>?_⟩;obtain ⟨rfl,cc,hcc,rfl⟩:=hy;have step:(x.cps.toList.take (i+1)).map (fun c=>V.bl (decide (97≤c)&&decide (c≤122)))=(x.cps.toList.take i).map (fun c=>V.bl (decide (97≤c)&&decide (c≤122)))++[V.bl (decide (97≤cc)&&decide (cc≤122))]:=by
      have hcc':x.cps.toList[i]?=some cc:=by simpa using hcc
      rw [Bb,hcc',An];rfl
     refine ⟨_,rfl,_,_,rfl,rfl,_,rfl,?_⟩
     by_cases ha:97≤cc
     ·refine qZ ((qk4 cc).trans (Ak ha)) ⟨_,_,rfl,rfl,rfl,?_⟩;rw [step,Ak ha,Cm];exact congrArg (fun b=>_++[V.bl b]) (le_z cc)
     ·refine qR ((qk4 cc).trans (As ha)) ⟨rfl,?_⟩;rw [step,As ha,Cp]
    ·obtain ⟨rfl,rfl⟩:=h;refine ⟨Ah _,fun D hD=>⟨D,x.cps.toList.map fun c=>decide (97≤c)&&decide (c≤122),rfl,SqL.of (by rw [upd_same,hsz,Bp,Bu];rfl),?_⟩⟩
     have e:Tre.zh (.str x)=(x.cps.toList.map fun c=>decide (97≤c)&&decide (c≤122)).all id:=by
      simp only [Tre.zh,Tre.qY];rw [Ak (show 1≤x.length from ⋯),Ak (show x.length≤8 from ⋯),Dx];rfl
     rw [← e];exact q _ (qe hD _)
  ·have c1':¬ (1:Int)≤(x.length:Int):=of_decide_eq_false (Bo.mpr c1);refine ⟨_,rfl,vB ?_⟩;have e:Tre.zh (.str x)=false:=by
    simp only [Tre.zh,Tre.qY];rw [As (show ¬ 1≤x.length from ⋯)];simp
   have q':=q H (qw.refl _);rw [e] at q';exact q'
 | _=>exact ⟨_,rfl,vB (vB (q H (qw.refl _)))⟩
theorem Xz (F:Fun K "is_number" "is_number" vt f fd) (c:Cs K mg ad):FnOk P w K mg base CX0 1 f fd ["thing"] (spD K Tre.JS):=by
 refine F.ok Xk (fun vs H Q E h=>?_) (fun cdv A outer s H vs Q E hr h=>?_)
 ·obtain ⟨x,d,rfl,_⟩:=h;rfl
 obtain ⟨x,d,rfl,hk,ft,q⟩:=h;refine ⟨_,(qf (qN (PW.pt (ve (jM (zZ (qz (j7 (K:=K) rfl) (by rfl) c.isinstance_ qJ (qb (pv 0) (qb (JQ c.int_ qfl) qc))))) (JK (zZ (qz (j7 (K:=K) rfl) (by rfl) c.isinstance_ qJ (qb (pv 0) (qb (JQ c.bool_ qhj) qc))))))) (qi (qy jZ)) qB)
   (qi (qy (ZC ZE ZE (qkr qh5 (Vs c.GREATEST_NUMBER)) (pv 0) (Vs c.GREATEST_NUMBER))))),?_⟩
 have q0:=q H (qw.refl _);refine ⟨_,rfl,x,d,"int",rfl,hk,O0,?_⟩;have hk2:=hk;cases hk with
 | bl b=>exact ⟨_,rfl,_,rfl,_,_,"bool",rfl,hk2,O0,_,rfl,q0⟩
 | int i=>
  refine ⟨_,rfl,_,rfl,_,_,"bool",rfl,hk2,O0,_,rfl,?_⟩;refine ⟨_,rfl,_,rfl,_,_,rfl,rfl,_,rfl,?_⟩
  by_cases h:(-1000000000000:Int)≤i
  ·refine qZ (Ak h) ⟨_,_,rfl,rfl,?_⟩;simp only [Tre.JS,Tre.Vv,Ak h,Cm] at q0;exact q0
  ·refine qR (As h) ?_;simp only [Tre.JS,Tre.Vv,As h,Cp] at q0;exact q0
 | _=>exact ⟨_,rfl,q0⟩
inductive spRow (K:Frag) (vs:List V) (H:Hp) (Q:VK) (E':XK):Prop
 | mk:∀ x d m,(vs=[x,.int (m:Nat)])→(Rep K H x d)→(Q (.bl (Tre.JE d m)) H)→spRow K vs H Q E'
theorem qcd (F:Fun K "is_row" "is_row" W5 f fd) (c:Cs K mg ad):FnOk P w K mg base CX0 1 f fd ["thing","most"] (spRow K):=by
 refine F.ok qb2 (fun vs H Q E h=>?_) (fun cdv A outer s H vs Q E hr h=>?_)
 ·obtain ⟨x,d,m,rfl,_⟩:=h;rfl
 obtain ⟨x,d,m,rfl,hk,q⟩:=h;refine ⟨_,(qi (qy (Vt (qz (j7 (K:=K) rfl) (by rfl) c.isinstance_ qJ (qb (pv 0) (qb (JQ c.tuple_ zH) qc))) (Vr (jF ZE (qz (jw (K:=K) rfl) (by rfl) c.len_ zJ (qb (pv 0) qc)) (pv 1) (qD _)))))),?_⟩
 refine ⟨_,rfl,x,d,"tuple",rfl,hk,O0,?_⟩;cases hk with
 | @tup a xs ds hq hs=>
  refine ⟨_,rfl,?_⟩;refine vB ⟨_,rfl,_,_,rfl,.inr ⟨_,hq,rfl⟩,_,rfl,_,_,rfl,rfl,?_⟩;have e:Tre.JE (.tuple ds) m=decide (((xs.length:Nat):Int)≤(m:Int)):=by
   simp only [Tre.JE];rw [hs.length];exact decide_eq_decide.mpr ⋯
  rw [e] at q;exact q
 | _=>exact ⟨_,rfl,ZW q⟩
theorem qc2 {a:Addr} {js:List (Option Nat)} {k:Nat} {te:TE} {σ:St} {H:Hp} {Q:VK} {xs:List V} {ds:List PyData} (hq:SqT K H a xs) (hr:Reps K H xs ds) (fv:PyData→V) (hz:ds.length≤sizeLine)
  (step:∀ (x:V) (d:PyData) (H':Hp) (R:VK),qw H H'→d∈ds→Rep K H' x d→(∀ H5,qw H' H5→R (fv d) H5)→te ((jI js σ).set k (some x)) H' R)
  (fin:∀ (H':Hp) (D:Addr),qw H H'→H' D=none→Q (.ref D) (upd H' D (.lst (ds.map fv)))):Qv (Itt K a) js (qv k) Zl te σ H Q:=by
 have hlen:=hr.length;refine zG ds.length (fun i ys H'=>qw H H'∧ys=(ds.take i).map fv) ⟨qw.refl _,rfl⟩ (fun i ys H' h=>?_) hz (fun i ys H' hi h=>?_) (fun ys H' h=>?_)
 ·rw [h.2,Ab];exact Bv _ _
 ·obtain ⟨g,rfl⟩:=h;have hx:xs[i]?=some xs[i]:=Aq ⋯;refine ⟨⟨xs,xs[i],g.sqT hq,hx⟩,fun v H2 hy=>?_⟩;obtain ⟨rfl,hv⟩:=hy;have e:=(hx.symm.trans (hv xs (g.sqT hq)));cases e;obtain ⟨d,hd,rd⟩:=hr.get hx;show te ((jI js σ).set k (some xs[i])) H2 (fun y H5=>qw H H5∧(ds.take i).map fv++[y]=(ds.take (i+1)).map fv);refine step _ d _ _ g (A9 hd) (rd.same g) fun H5 g5=>⟨g.trans g5,?_⟩;rw [Bb,hd,An];rfl
 ·obtain ⟨g,rfl⟩:=h;refine ⟨⟨xs,g.sqT hq,⋯⟩,fun D hD=>?_⟩;rw [Bp];exact fin H' D g hD
theorem qk5 {c:Bool} {A B:Prop} (e:c=true) (h:A):if c=true then A else B:=qZ e h
theorem YS {H:Hp}:∀ {xs:List V} {ds:List PyData},Reps K H xs ds→ds.all Tre.zh=true→xs=(ds.map Tre.txt).map V.str
 | _,_,.nil,_=>rfl
 | _,_,.cons h t,e=>by
  rw [E5,Ae] at e;cases h with
  | str x=>rw [Ba,Ba,← YS t e.2];rfl
  | _=>exact absurd e.1 Ag
theorem XB (F:Fun K "are_names" "are_names" JA f fd) (c:Cs K mg ad) (d_is_name:Def P w K mg base 1 "is_name" ["thing"] (spD K Tre.zh)) (d_is_row:Def P w K mg base 1 "is_row" ["thing","most"] (spRow K)):FnOk P w K mg base CX0 2 f fd ["thing"] (spD K Tre.areNames):=by
 refine F.ok Xm (fun vs H Q E h=>?_) (fun cdv A outer s H vs Q E hr h=>?_)
 ·obtain ⟨x,d,rfl,_⟩:=h;rfl
 obtain ⟨x,d,rfl,hk,ft,q⟩:=h;refine ⟨_,(qf (qN (PW.pt (ve (jM (zZ (pdf d_is_row (qb (pv 0) (qb (Vs c.MOST_NAMES) qc))))) (JK (jM (zZ (qz (qfp (K:=K) rfl rfl) (by rfl) c.all_ Q2 (qb (jk (sc:=qj JA) (NX:=["thing"]) (N:=["one"]) (js:=[none]) (JP (K:=K) rfl (pv 0)) (fun _ _ _ _ _=>(zn (i:=0) (show (["one"]:List Str).Nodup from ∅) rfl (Or.inl rfl))) (fun _ _ _ _ _=>jE) (fun _ _ _ _ _=>(pdf d_is_name (qb (pv 0) qc))) (zF rfl) ⟨∅,rfl,∅,∅,rfl,∅⟩) qc))))))) (qi (qy jZ)) qB)
   (qi (qy (jF zy (qz qc9 (by rfl) c.len_ zJ (qb (zk (qc7 (K:=K) rfl rfl) (by rfl) c.set_ qjt (qb (pv 0) qc)) qc)) (qz (jw (K:=K) rfl) (by rfl) c.len_ zJ (qb (pv 0) qc)) (qD _))))),?_⟩
 have hk2:=hk;refine ⟨_,rfl,_,_,4,rfl,hk2,_,rfl,?_⟩;cases hk with
 | @tup a xs ds hq hs=>
  by_cases h4:ds.length≤4
  ·refine qR (show (!Tre.JE (.tuple ds) 4)=false by simp [Tre.JE,h4]) ?_
   refine ⟨_,rfl,.inr (.inl ⟨a,rfl,⟨xs,hq⟩,qc2 hq hs (fun d=>V.bl (Tre.zh d)) (Av h4 O0) (fun x d H' R g hd rd hR=>?_) (fun H' D g hD=>?_)⟩)⟩
   ·exact ⟨_,rfl,_,_,rfl,rd,Tre.Js (by simpa [Tre.fit] using ft) d hd,fun H5 g5=>hR H5 g5⟩
   ·refine ⟨D,ds.map Tre.zh,rfl,SqL.of (by rw [upd_same,Bu];rfl),_,rfl,?_⟩
    have g2:qw H (upd H' D (.lst (ds.map fun d=>V.bl (Tre.zh d)))):=g.trans (qe hD _);have g3:=g2.sqT hq;generalize upd H' D (.lst (ds.map fun d=>V.bl (Tre.zh d)))=H2 at g2 g3 ⊢
    by_cases ha:ds.all Tre.zh=true
    ·refine qR (show (!((ds.map Tre.zh).all id))=false by rw [Dx];simpa using ha) ?_
     obtain rfl:=YS hs ha;have hl:(ds.map Tre.txt).length≤100:=by rw [Ab];omega
     refine ⟨_,rfl,a,ds.map Tre.txt,rfl,g3,hl,fun p hp=>⟨p,ds.map Tre.txt,rfl,upd_same,hl,_,rfl,_,_,rfl,.inr ⟨_,(qe hp _).sqT g3,rfl⟩,rfl,?_⟩⟩;have q':=q _ (g2.trans (qe hp (qf9 P w p (ds.map Tre.txt))));have e:Tre.areNames (.tuple ds)=decide (V.int (((vk (ds.map Tre.txt)).length:Nat):Int)=V.int ((((ds.map Tre.txt).map V.str).length:Nat):Int)):=by
      simp only [Tre.areNames,ha,Ak h4,Cm];rw [decide_eq_decide];refine (qdl _).symm.trans ⟨fun z=>by rw [z,Ab (f:=V.str)],fun z=>?_⟩
      have z':=V.int.inj z;rw [Ab (f:=V.str)] at z';omega
     rw [e] at q';exact q'
    ·refine qZ (show (!((ds.map Tre.zh).all id))=true by rw [Dx];simpa using ha) ?_
     have q':=q _ g2;have e:Tre.areNames (.tuple ds)=false:=by simp [Tre.areNames,ha]
     rw [e] at q';exact q'
  ·refine qk5 (show (!Tre.JE (.tuple ds) 4)=true by simp [Tre.JE,h4]) ?_
   have q':=q H (qw.refl _);have e:Tre.areNames (.tuple ds)=false:=by simp [Tre.areNames,h4]
   rw [e] at q';exact vB q'
 | _=>exact vB (vB (q H (qw.refl _)))
inductive spShape (K:Frag) (vs:List V) (H:Hp) (Q:VK) (E':XK):Prop
 | mk:∀ x d sh,(vs=[x,.str sh])→(Rep K H x d)→(Tre.fit d=true)→(∀ H',qw H H'→Q (.bl (Tre.qA d sh)) H')→spShape K vs H Q E'
theorem qkd (a b:Str):decide (V.str a=V.str b)=(a==b):=by
 rw [Cc,Dn,Ax];exact ⟨fun h=>V.str.inj h,fun h=>h▸rfl⟩
theorem XA (F:Fun K "has_shape" "has_shape" vw f fd) (c:Cs K mg ad) (T:Tb P w K mg) (d_is_name:Def P w K mg base 1 "is_name" ["thing"] (spD K Tre.zh)) (d_is_number:Def P w K mg base 1 "is_number" ["thing"] (spD K Tre.JS)) (d_is_row:Def P w K mg base 1 "is_row" ["thing","most"] (spRow K)) (d_are_names:Def P w K mg base 2 "are_names" ["thing"] (spD K Tre.areNames)):FnOk P w K mg base CX0 3 f fd ["thing","shape"] (spShape K):=by
 refine F.ok Xl (fun vs H Q E h=>?_) (fun cdv A outer s H vs Q E hr h=>?_)
 ·obtain ⟨x,d,sh,rfl,_⟩:=h;rfl
 obtain ⟨x,d,sh,rfl,hk,ft,q⟩:=h;refine ⟨_,(qf (qN (qt zy (pv 1) qp (qD _)) (qi (qy (pdf d_is_number (qb (pv 0) qc)))) qB)
   (qf (qN (qt zy (pv 1) qp (qD _)) (qi (qy (pdf d_is_name (qb (pv 0) qc)))) qB)
   (qf (qN (qt zy (pv 1) qp (qD _)) (qi (qy (Vt (pdf d_is_name (qb (pv 0) qc)) (Vr (jF qeq (pv 0) qp (qD _)))))) qB)
   (qf (qN (qt zy (pv 1) qp (qD _)) (qi (qy (Vt (qz (j7 (K:=K) rfl) (by rfl) c.isinstance_ qJ (qb (pv 0) (qb (JQ c.str_ wy) qc))) (Vr (jF (yx (K:=K) rfl) (pv 0) (qen T.SIGNS) rfl))))) qB)
   (qf (qN (qt zy (pv 1) qp (qD _)) (qi (qy (pdf d_are_names (qb (pv 0) qc)))) qB)
   (qf (qN (qt zy (pv 1) qp (qD _)) (qi (qy (pdf d_is_row (qb (pv 0) (qb (Vs c.MOST_TERMS) qc))))) qB)
   (qf (qN (qt zy (pv 1) qp (qD _)) (qi (qy (pdf d_is_row (qb (pv 0) (qb (Vs c.MOST_STATEMENTS) qc))))) qB)
   (qi (qy jZ))))))))),?_⟩
 by_cases e0:sh="number"
 ·subst e0;simp only [Tre.jz] at q;refine ⟨_,rfl,rfl,_,rfl,qZ (show decide _=true from Ak rfl) ?_⟩;exact ⟨_,rfl,_,_,rfl,hk,ft,fun H' g=>q H' g⟩
 refine ⟨_,rfl,rfl,_,rfl,qR (show decide _=false from As fun z=>e0 (V.str.inj z)) ?_⟩
 by_cases e1:sh="name"
 ·subst e1;simp only [Tre.zS] at q;refine ⟨_,rfl,rfl,_,rfl,qZ (show decide _=true from Ak rfl) ?_⟩;exact ⟨_,rfl,_,_,rfl,hk,ft,fun H' g=>q H' g⟩
 refine ⟨_,rfl,rfl,_,rfl,qR (show decide _=false from As fun z=>e1 (V.str.inj z)) ?_⟩
 by_cases e2:sh="word"
 ·subst e2;simp only [Tre.Jj] at q;refine ⟨_,rfl,rfl,_,rfl,qZ (show decide _=true from Ak rfl) ?_⟩;refine ⟨_,rfl,_,_,rfl,hk,ft,fun H' g=>⟨_,rfl,?_⟩⟩;have q':=q H' g;cases hk with
  | str x=>
   by_cases hn:Tre.qY x=true
   ·refine qZ hn ⟨_,rfl,rfl,?_⟩;simp only [hn,Cm] at q';show Q (.bl (!decide (V.str x=V.str "any"))) H';rw [qkd];exact q'
   ·have hn':=Bo.mpr hn;refine qR hn' ?_;simp only [hn',Cp] at q';exact q'
  | _=>exact ZW q'
 refine ⟨_,rfl,rfl,_,rfl,qR (show decide _=false from As fun z=>e2 (V.str.inj z)) ?_⟩
 by_cases e3:sh="sign"
 ·subst e3;simp only [Tre.Jk] at q;refine ⟨_,rfl,rfl,_,rfl,qZ (show decide _=true from Ak rfl) ?_⟩;have q':=q H (qw.refl _);refine ⟨_,rfl,_,_,"str",rfl,hk,O0,_,rfl,?_⟩;cases hk with
  | str x=>
   refine vB ⟨_,rfl,fun a ha=>⟨a,_,rfl,.inr (ha H),rfl,rfl,?_⟩⟩;exact q'
  | _=>exact ZW q'
 refine ⟨_,rfl,rfl,_,rfl,qR (show decide _=false from As fun z=>e3 (V.str.inj z)) ?_⟩
 by_cases e4:sh="names"
 ·subst e4;simp only [Tre.ju] at q;refine ⟨_,rfl,rfl,_,rfl,qZ (show decide _=true from Ak rfl) ?_⟩;exact ⟨_,rfl,_,_,rfl,hk,ft,fun H' g=>q H' g⟩
 refine ⟨_,rfl,rfl,_,rfl,qR (show decide _=false from As fun z=>e4 (V.str.inj z)) ?_⟩
 by_cases e5:sh="terms"
 ·subst e5;simp only [Tre.jt] at q;refine ⟨_,rfl,rfl,_,rfl,qZ (show decide _=true from Ak rfl) ?_⟩;exact ⟨_,rfl,_,_,4,rfl,hk,q H (qw.refl _)⟩
 refine ⟨_,rfl,rfl,_,rfl,qR (show decide _=false from As fun z=>e5 (V.str.inj z)) ?_⟩
 by_cases e6:sh="body"
 ·subst e6;simp only [Tre.jc] at q;refine ⟨_,rfl,rfl,_,rfl,qZ (show decide _=true from Ak rfl) ?_⟩;exact ⟨_,rfl,_,_,12,rfl,hk,q H (qw.refl _)⟩
 refine ⟨_,rfl,rfl,_,rfl,qR (show decide _=false from As fun z=>e6 (V.str.inj z)) ?_⟩;have q':=q H (qw.refl _);rw [Tre.W3 d (Bc.mpr e0) (Bc.mpr e1) (Bc.mpr e2) (Bc.mpr e3) (Bc.mpr e4) (Bc.mpr e5) (Bc.mpr e6)] at q';exact q'
theorem qjr (y:V) (ys:List V):v7 (y::ys) (some 1) none=ys:=by
 unfold v7;have e:HT.sIx (y::ys).length 0 (some 1)=1:=by
  show HT.sIx (y::ys).length 0 (some ((1:Nat):Int))=1;rw [HT.sIx_nat];simp
 rw [e,HT.sIx_none];simp
theorem XX (y:V) (ys:List V):¬ (HT.sIx (y::ys).length 0 (some 1)=0∧HT.sIx (y::ys).length (y::ys).length none=(y::ys).length):=by
 have e:HT.sIx (y::ys).length 0 (some 1)=1:=by
  show HT.sIx (y::ys).length 0 (some ((1:Nat):Int))=1;rw [HT.sIx_nat];simp
 rw [e];omega
theorem qct (l:List Str):(l.map V.str).all vf=true:=by
 rw [Dx];exact A3.mpr fun _ _=>rfl
theorem VZ (h:Str) (l:List Str):inV (.str h) (l.map V.str)=l.any fun y=>y==h:=by
 unfold inV;rw [List.any_map];rfl
theorem qc1 {a b:Addr} {js:List (Option Nat)} {te:TE} {σ:St} {H:Hp} {Q:VK} {xs:List V} {ds:List PyData} {fs:List Str} (hq:SqT K H a xs) (hr:Reps K H xs ds) (hq2:SqT K H b (fs.map V.str)) (hl:ds.length=fs.length) (hz:ds.length≤sizeLine) (fv:PyData→Str→V)
  (step:∀ (x:V) (d:PyData) (sh:Str) (H':Hp) (R:VK),qw H H'→(d,sh)∈ds.zip fs→Rep K H' x d→(∀ H5,qw H' H5→R (fv d sh) H5)→te (((jI js σ).set 0 (some x)).set 1 (some (.str sh))) H' R)
  (fin:∀ (H':Hp) (D:Addr),qw H H'→H' D=none→Q (.ref D) (upd H' D (.lst ((ds.zip fs).map fun p=>fv p.1 p.2)))):Qv (Itz K a b) js (qe8 K 2 (yB (qv 0) (yB (qv 1) qhb))) Zl te σ H Q:=by
 have hlen:=hr.length;have hzip:(ds.zip fs).length=ds.length:=by rw [Ef];omega
 refine zG ds.length (fun i ys H'=>qw H H'∧ys=((ds.zip fs).take i).map fun p=>fv p.1 p.2) ⟨qw.refl _,rfl⟩ (fun i ys H' h=>?_) hz (fun i ys H' hi h=>?_) (fun ys H' h=>?_)
 ·rw [h.2,Ab];exact Bv _ _
 ·obtain ⟨g,rfl⟩:=h;have hx:xs[i]?=some xs[i]:=Aq ⋯;have hf:fs[i]?=some fs[i]:=Aq ⋯;have hy:(fs.map V.str)[i]?=some (.str fs[i]):=by rw [A0,hf];rfl
  refine ⟨⟨xs,_,_,_,g.sqT hq,g.sqT hq2,hx,hy⟩,fun v H2 yl=>?_⟩;obtain ⟨p,x,y,hp,rfl,e1,e2,rfl⟩:=yl;have e3:=hx.symm.trans (e1 xs (g.sqT hq));cases e3;have e4:=hy.symm.trans (e2 _ (g.sqT hq2));cases e4;obtain ⟨d,hd,rd⟩:=hr.get hx;have g2:=g.trans (qe hp (.tup [xs[i],.str fs[i]]));have hm:(ds.zip fs)[i]?=some (d,fs[i]):=D6.mpr ⟨hd,hf⟩;refine ⟨p,_,rfl,SqT.of upd_same,rfl,_,_,rfl,_,_,rfl,rfl,?_⟩;show te (((jI js σ).set 0 (some xs[i])).set 1 (some (.str fs[i]))) _ (fun z H5=>qw H H5∧((ds.zip fs).take i).map (fun p=>fv p.1 p.2)++[z]=((ds.zip fs).take (i+1)).map fun p=>fv p.1 p.2);refine step _ d _ _ _ g2 (A9 hm) (rd.same g2) fun H5 g5=>⟨g2.trans g5,?_⟩;rw [Bb,hm,An];rfl
 ·obtain ⟨g,rfl⟩:=h;refine ⟨⟨xs,_,g.sqT hq,g.sqT hq2,.inl ⋯⟩,fun D hD=>?_⟩;rw [← hzip,Bp];exact fin H' D g hD
inductive spForm (K:Frag) (vs:List V) (H:Hp) (Q:VK) (E':XK):Prop
 | mk:∀ x d sh hands,(vs=[x,.str sh,.bl hands])→(Rep K H x d)→(Tre.fit d=true)→((Tre.heads.lookup sh).isSome=true)→(∀ H',qw H H'→Q (.bl (Tre.qK d sh hands)) H')→spForm K vs H Q E'
def Ze (K:Frag):TS:=jb (tCB (fun xs H Q=>∃ a bs,xs=[V.ref a]∧SqL K H a (List.map V.bl bs)∧Q (V.bl (bs.all id)) H) (qd (vm (qk7 K (qd (tSl (QI K) (qg 0) (W0 (tC (V.int 1))) VN) (qd (qg 4) qo))) [none,none] (qe8 K 2 (yB (qv 0) (yB (qv 1) qhb))) Zl (qE (spShape K) [] E0 (qd (qg 0) (qd (qg 1) qo)))) qo))
def Zd (K:Frag):TS:=qG (zz (qI (tOp rNe (tCB (fun xs H Q=>∃ x n,xs=[x]∧v9 K x H n∧Q (V.int ↑n) H) (qd (qg 0) qo)) (tOp zW (tCB (fun xs H Q=>∃ x n,xs=[x]∧v9 K x H n∧Q (V.int ↑n) H) (qd (qg 4) qo)) (tC (V.int 1))))) (jb (tC (V.bl false))) zg) (Ze K)
def Zc (K:Frag):TS:=qG (qX (qdq K Tre.forms (qg 3)) (qv 4)) (Zd K)
def Zb (K:Frag):TS:=qG (zz (VP (qI (tOp rEq (qg 3) (tC (V.str "hand")))) (qdr (tB (qg 2)))) (jb (tC (V.bl false))) zg) (Zc K)
def Za (K:Frag):TS:=qG (zz (qI (tOp (rIn K true) (qg 3) (qdq K Tre.heads (qg 1)))) (jb (tC (V.bl false))) zg) (Zb K)
def X9 (K:Frag):TS:=qG (qX (tOp (rIx K) (qg 0) (tC (V.int 0))) (qv 3)) (Za K)
theorem ZM (F:Fun K "has_form" "has_form" J3 f fd) (c:Cs K mg ad) (T:Tb P w K mg) (d_has_shape:Def P w K mg base 3 "has_shape" ["thing","shape"] (spShape K)):FnOk P w K mg base CX0 4 f fd ["thing","shape","hands"] (spForm K):=by
 refine F.ok vp (fun vs H Q E h=>?_) (fun cdv A outer s H vs Q E hr h=>?_)
 ·obtain ⟨x,d,sh,hands,rfl,_⟩:=h;rfl
 obtain ⟨x,d,sh,hands,rfl,hk,ft,hsh,q⟩:=h;refine ⟨_,(qf (qN (PW.pt (ve (jM (zZ (qz (j7 (K:=K) rfl) (by rfl) c.isinstance_ qJ (qb (pv 0) (qb (JQ c.tuple_ zH) qc))))) (ve (qt zy (qz (jw (K:=K) rfl) (by rfl) c.len_ zJ (qb (pv 0) qc)) qh (qD _)) (JK (jM (zZ (qz (j7 (K:=K) rfl) (by rfl) c.isinstance_ qJ (qb (pix K (pv 0) qh) (qb (JQ c.str_ wy) qc))))))))) (qi (qy jZ)) qB)
   (qf (pst 3 vp.nd (pix K (pv 0) qh))
   (qf (qN (qt (ZP (K:=K) rfl) (pv 3) (Xq (K:=K) rfl T.HEADS (pv 1) (fun _ _=>rfl)) rfl) (qi (qy jZ)) qB)
   (qf (qN (PW.pt (J4 (qt zy (pv 3) qp (qD _)) (JB (jM (zZ (pv 2)))))) (qi (qy jZ)) qB)
   (qf (pst 4 vp.nd (Xq (K:=K) rfl T.FORMS (pv 3) (fun _ _=>rfl)))
   (qf (qN (qt qeq (qz (jw (K:=K) rfl) (by rfl) c.len_ zJ (qb (pv 0) qc)) (qu zb (qz (jw (K:=K) rfl) (by rfl) c.len_ zJ (qb (pv 4) qc)) qh) (qD _)) (qi (qy jZ)) qB)
   (qi (qy (qz (qfp (K:=K) rfl rfl) (by rfl) c.all_ Q2 (qb (jk (sc:=qj J3) (NX:=["thing","shape","hands","head","shapes"]) (N:=["one","wanted"]) (js:=[none,none]) (qel (K:=K) rfl c.zip_ (qb (jY (Zr (K:=K) rfl) (pv 0) (Jg qh) J5) (qb (pv 4) qc))) (fun _ _ _ _ _=>(YN (K:=K) rfl rfl (zN (zn (i:=0) (show (["one","wanted"]:List Str).Nodup from ∅) rfl (Or.inl rfl)) (zN (zn (i:=1) (show (["one","wanted"]:List Str).Nodup from ∅) rfl (Or.inl rfl)) vQ)))) (fun _ _ _ _ _=>jE) (fun _ _ _ _ _=>(pdf d_has_shape (qb (pv 0) (qb (pv 1) qc)))) (Xs rfl rfl) ⟨∅,rfl,∅,∅,rfl,∅⟩) qc)))))))))),?_⟩
 show qG (zz (tOr (qdr (tB (tCB (fun xs H Q=>∃ x d T,xs=[x,V.ty T]∧Rep K H x d∧T∈["bool","int","str","list","tuple"]∧Q (V.bl (isi (tyD d) T)) H) (qd (qg 0) (qd (tC (V.ty "tuple")) qo))))) (tOr (qI (tOp rEq (tCB (fun xs H Q=>∃ x n,xs=[x]∧v9 K x H n∧Q (V.int ↑n) H) (qd (qg 0) qo)) (tC (V.int 0)))) (qdr (tB (tCB (fun xs H Q=>∃ x d T,xs=[x,V.ty T]∧Rep K H x d∧T∈["bool","int","str","list","tuple"]∧Q (V.bl (isi (tyD d) T)) H) (qd (tOp (rIx K) (qg 0) (tC (V.int 0))) (qd (tC (V.ty "str")) qo))))))) (jb (tC (V.bl false))) zg) (X9 K) _ _ _;have q0:=q H (qw.refl _);have hk2:=hk;refine ⟨_,rfl,_,_,"tuple",rfl,hk2,O0,_,rfl,?_⟩;cases hk with
 | @tup a xs ds hq hs=>
  refine ZW ⟨_,rfl,_,_,rfl,.inr ⟨_,hq,rfl⟩,rfl,_,rfl,?_⟩;cases hs with
  | nil=>exact vB (vB q0)
  | @cons y ys e es r rs=>
   refine qR (show decide _=false from As fun z=>by have:=V.int.inj z;rw [Aj] at this;omega) ?_
   have hy:atI (y::ys) 0=some y:=qk (j:=0) rfl;refine ⟨_,rfl,ixT hq hy ⟨_,_,"str",rfl,r,O0,_,rfl,?_⟩⟩;cases r with
   | str h=>
    refine ZW ?_;refine ⟨_,rfl,ixT hq hy ?_⟩;obtain ⟨l,hl⟩:=D9.mp hsh;refine ⟨_,rfl,_,rfl,sh,l,rfl,hl,fun a2 ha2=>⟨a2,_,rfl,.inr (ha2 H),rfl,qct l,_,rfl,?_⟩⟩;have hin:(((Tre.heads.lookup sh).getD []).any fun y=>y==h)=l.any fun y=>y==h:=by rw [hl];rfl
    have q1:=q0;simp only [Tre.qK,hin] at q1
    by_cases hm:(l.any fun y=>y==h)=true
    ·refine qR (show (!inV (.str h) (l.map V.str))=false by rw [VZ,hm];rfl) ?_
     rw [hm,Cm] at q1;obtain ⟨_,_,_,fs,hfs,hf5⟩:=Tre.YY (hin.trans hm);refine ⟨_,rfl,rfl,_,rfl,?_⟩
     by_cases hb:(h=="hand"&&!hands)=true
     ·rw [Ae,Ax] at hb;obtain ⟨rfl,hb⟩:=hb;refine qZ (show decide _=true from Ak rfl) ⟨_,rfl,_,rfl,qZ hb ?_⟩;rw [hb] at q1;exact q1
     ·have hb':=Bo.mpr hb;have q2:∀ H',qw H H'→Q (.bl (Tre.zC es fs)) H':=fun H' g=>by
       have:=q H' g;simp only [Tre.qK,hin,hm,hb',hfs,Cm,Bool.not_false,Option.getD_some] at this;exact this
      refine v1 (fun c1=>⟨_,rfl,_,rfl,qR ?hd ?g1⟩) (fun _=>ZW ?g2)
      case hd=>
       have c1':h="hand":=V.str.inj (Ay c1);rw [c1'] at hb';simpa using hb'
      all_goals
       refine ⟨_,rfl,h,fs,rfl,hfs,fun a3 ha3=>?_⟩;refine ⟨_,rfl,_,_,rfl,.inr ⟨_,hq,rfl⟩,_,rfl,_,_,rfl,.inr ⟨_,ha3 H,rfl⟩,.inl ⟨_,_,rfl,rfl,rfl,_,rfl,?_⟩⟩;have hys:=rs.length
       by_cases hlen:es.length=fs.length
       ·refine qR (show (!decide _)=false by
         rw [Bool.not_eq_false',Dn,Ab,Aj,hys,hlen];rfl) ?_
        refine ⟨_,rfl,_,rfl,.inr (.inr ⟨a,_,rfl,hq,XX _ _,fun p hp=>?_⟩)⟩;rw [qjr];have g1:=qe hp (.tup ys);refine ⟨_,rfl,p,a3,rfl,⟨ys,SqT.of upd_same⟩,⟨_,ha3 _⟩,qc1 (SqT.of upd_same) (rs.same g1) (ha3 _) hlen (Av ⋯ (show 5≤sizeLine from O0)) (fun d sh=>V.bl (Tre.qA d sh)) (fun x d sh H' R g hd rd hR=>?_) (fun H' D g hD=>?_)⟩
        ·have ft':Tre.fit d=true:=by
          rw [Tre.fit,Tre.j8,Ae] at ft;exact Tre.Js ft.2 d (Dj hd).1
         exact ⟨_,rfl,_,rfl,_,_,_,rfl,rd,ft',fun H5 g5=>hR H5 g5⟩
        ·have q3:=q2 _ ((g1.trans g).trans (qe hD (.lst ((es.zip fs).map fun p=>V.bl (Tre.qA p.1 p.2)))));refine ⟨D,(es.zip fs).map fun p=>Tre.qA p.1 p.2,rfl,SqL.of (by rw [upd_same,Bu];rfl),?_⟩
         have e3:Tre.zC es fs=((es.zip fs).map fun p=>Tre.qA p.1 p.2).all id:=by
          unfold Tre.zC;rw [Ak hlen,Cm,Dx];rfl
         rw [e3] at q3;exact q3
       ·refine qZ (show (!decide _)=true by
         rw [D4,decide_eq_false_iff_not,Ab,Aj,hys];intro z;have:=V.int.inj z;omega) ?_
        have q3:=q2 H (qw.refl _);unfold Tre.zC at q3;rw [As hlen,Cp] at q3;exact q3
    ·have hm':=Bo.mpr hm;refine qZ (show (!inV (.str h) (l.map V.str))=true by rw [VZ,hm'];rfl) ?_
     rw [hm',Cp,Cp] at q1;exact q1
   | _=>exact vB q0
 | _=>exact vB (vB q0)
end
abbrev Lp (J:It) (g:TG) (tb:TS) (D:Ends) (σ:St) (H:Hp):Prop:=
 ∃ W:Nat→Nat→St→Hp→Prop,(∃ m,W 0 m σ H)∧∀ i m σ H,W i m σ H→
  (J.stop i H∧D.nx σ H)∨(J.go i H∧∃ N:St→Hp→Prop,(∀ σ' H',N σ' H'→∃ m',m'<m∧W (i+1) m' σ' H')∧∀ x H',J.yld i H x H'→g x σ H' fun σ2 H2=>tb {D with nx:=N,ct:=N,bk:=D.nx} σ2 H2)
theorem Q0 {J:It} {g:TG} {tb:TS} {D:Ends} {σ:St} {H:Hp} (n:Nat) (Pv:Nat→St→Hp→Prop) (h0:Pv 0 σ H)
  (hs:∀ i σ H,i<n→Pv i σ H→J.go i H∧∀ x H',J.yld i H x H'→g x σ H' fun σ2 H2=>tb {D with nx:=Pv (i+1),ct:=Pv (i+1),bk:=D.nx} σ2 H2) (hd:∀ σ H,Pv n σ H→J.stop n H∧D.nx σ H):
  Lp J g tb D σ H:=by
 refine ⟨fun i m σ H=>m=n - i∧i≤n∧Pv i σ H,⟨n,by simp,Bm _,h0⟩,fun i m σ H h=>?_⟩
 obtain ⟨rfl,hi,p⟩:=h
 by_cases lt:i<n
 ·obtain ⟨a,b⟩:=hs i σ H lt p;exact .inr ⟨a,Pv (i+1),fun σ' H' p'=>⟨n - (i+1),⋯,rfl,lt,p'⟩,b⟩
 ·obtain rfl:i=n:=⋯;exact .inl (hd σ H p)
theorem JM {J:It} {g:TG} {tb:TS} {D:Ends} {σ:St} {H:Hp} (n:Nat) (Pv:Nat→St→Hp→Prop) (h0:Pv 0 σ H)
  (hs:∀ i σ H,i<n→Pv i σ H→J.go i H∧∀ x H',J.yld i H x H'→∀ D':Ends,(∀ σ H,Pv (i+1) σ H→D'.nx σ H)→(∀ v H,D.rt v H→D'.rt v H)→g x σ H' fun σ2 H2=>tb D' σ2 H2) (hd:∀ σ H,Pv n σ H→J.stop n H∧D.nx σ H):
  Lp J g tb D σ H:=
 Q0 n Pv h0 (fun i σ H hi p=>⟨(hs i σ H hi p).1,fun x H' y=>(hs i σ H hi p).2 x H' y _ (fun _ _ h=>h) fun _ _ h=>h⟩) hd
theorem yD {K:Frag} {a:Addr} {ws:List V} {ds:List PyData} {H0:Hp} {k:Nat} {tb:TS} {D:Ends} {σ:St} {H:Hp} (rs:Reps K H0 ws ds) (Pv:Nat→St→Hp→Prop) (h0:Pv 0 σ H) (sq:∀ i σ H,Pv i σ H→SqT K H a ws)
  (hs:∀ i σ H v d,i<ds.length→ds[i]?=some d→Rep K H0 v d→Pv i σ H→∀ D':Ends,(∀ σ H,Pv (i+1) σ H→D'.nx σ H)→(∀ v H,D.rt v H→D'.rt v H)→tb D' (σ.set k (some v)) H) (hd:∀ σ H,Pv ds.length σ H→D.nx σ H):
  Lp (Itt K a) (qv k) tb D σ H:=by
 have hl:=rs.length;refine JM ds.length Pv h0 (fun i σ H hi p=>?_) fun σ H p=>⟨⟨ws,sq _ σ H p,⋯⟩,hd σ H p⟩;have hx:ws[i]?=some (ws[i]'⋯):=Aq ⋯;obtain ⟨d,he,rd⟩:=rs.get hx;refine ⟨⟨ws,_,sq i σ H p,hx⟩,fun v H' yl=>?_⟩;obtain ⟨rfl,hv⟩:=yl;have ev:=Be (hx.symm.trans (hv ws (sq i σ H' p)));rw [← ev];exact hs i σ H' _ d hi he rd p
theorem qfb {K:Frag} {a:Addr} {ws:List V} {ds:List PyData} {H0:Hp} {k:Nat} {tb:TS} {D:Ends} {σ:St} {H:Hp} (rs:Reps K H0 ws ds) (Pv:Nat→St→Hp→Prop) (h0:Pv 0 σ H) (sq:∀ i σ H,Pv i σ H→SqL K H a ws)
  (hs:∀ i σ H v d,i<ds.length→ds[i]?=some d→Rep K H0 v d→Pv i σ H→∀ D':Ends,(∀ σ H,Pv (i+1) σ H→D'.nx σ H)→(∀ v H,D.rt v H→D'.rt v H)→tb D' (σ.set k (some v)) H) (hd:∀ σ H,Pv ds.length σ H→D.nx σ H):
  Lp (Itl K a) (qv k) tb D σ H:=by
 have hl:=rs.length;refine JM ds.length Pv h0 (fun i σ H hi p=>?_) fun σ H p=>⟨⟨ws,sq _ σ H p,⋯⟩,hd σ H p⟩;have hx:ws[i]?=some (ws[i]'⋯):=Aq ⋯;obtain ⟨d,he,rd⟩:=rs.get hx;refine ⟨⟨ws,_,sq i σ H p,hx⟩,fun v H' yl=>?_⟩;obtain ⟨rfl,hv⟩:=yl;have ev:=Be (hx.symm.trans (hv ws (sq i σ H' p)));rw [← ev];exact hs i σ H' _ d hi he rd p
abbrev Prs (K:Frag) (H0 H:Hp):List V→List (PyData×Str)→Prop:=Paired fun (y:V) (q:PyData×Str)=>∃ a x,y= .ref a∧H a=some (.tup [x,.str q.2])∧Rep K H0 x q.1
section
variable {P:Program} {w:World} {K:Frag} {mg:Str→Option Value} {base:Heap} {f:Addr} {fd:FuncData} {ad:Ad}
theorem Prs.write {H0 H:Hp} {p:Addr} {zs:List V} {o:HO} {ys:List V} {l:List (PyData×Str)} (hp:H p=some (.lst zs)) (h:Prs K H0 H ys l):Prs K H0 (upd H p o) ys l:=
 L2.Paired.mapP h fun y q ⟨a,x,e,ha,r⟩=>⟨a,x,e,by rw [qm (We ha hp (by intro z;cases z))];exact ha,r⟩
theorem Prs.same {H0 H H':Hp} {ys:List V} {l:List (PyData×Str)} (g:qw H H') (h:Prs K H0 H ys l):Prs K H0 H' ys l:=L2.Paired.mapP h fun _ _ ⟨a,x,e,ha,r⟩=>⟨a,x,e,g _ _ ha,r⟩
theorem Prs.append {H0 H:Hp}:∀ {ys zs:List V} {l m:List (PyData×Str)},Prs K H0 H ys l→Prs K H0 H zs m→Prs K H0 H (ys++zs) (l++m)
 | _,_,_,_,.nil,h=>h
 | _,_,_,_,.cons r t,h=> .cons r (Prs.append t h)
def prD (q:PyData×Str):PyData:= .tuple [q.1,.str q.2]
theorem Prs.reps {H0 H:Hp} (g:qw H0 H):∀ {ys:List V} {l:List (PyData×Str)},Prs K H0 H ys l→Reps K H ys (l.map prD)
 | _,_,.nil=> .nil
 | _,_,.cons (a:=y) (b:=q) h t=>by
  obtain ⟨a,x,rfl,ha,r⟩:=h;exact .cons (.tup (SqT.of ha) (.cons (r.same g) (.cons (.str _) .nil))) (Prs.reps g t)
theorem qL {H H':Hp} {p:Addr} (g:qw H H') (h:H p=none) (o:HO):qw H (upd H' p o):=fun b u q=>by rw [qm (qx q h)];exact g b u q
inductive spInner (K:Frag) (vs:List V) (H:Hp) (Q:VK) (E':XK):Prop
 | mk:∀ x d sh hands H0,(vs=[x])→(qw H0 H)→(Rep K H0 x d)→(Tre.qK d sh hands=true)→(∀ H' p zs,qw H H'→H p=none→H' p=some (.lst zs)→Prs K H0 H' zs (Tre.zi d)→Q (.ref p) H')→spInner K vs H Q E'
theorem qev {sh:Str} (h:(sh=="terms"||sh=="body")=true):Tre.JC.lookup sh=some ((Tre.JC.lookup sh).getD ""):=by
 rw [B4,Ax,Ax] at h;rcases h with rfl | rfl <;> decide+kernel
theorem XI (sh a b:Str):inV (.str sh) [.str a,.str b]=(sh==a||sh==b):=by
 rw [show ([.str a,.str b]:List V)=[a,b].map V.str from rfl,VZ];simp only [Cu,List.any_nil,Ed,Bool.beq_comm]
theorem qif {sh:Str} {d:PyData} (h:(sh=="terms"||sh=="body")=true) (hs:Tre.qA d sh=true):∃ ds,d= .tuple ds∧ds.length≤12:=by
 have row:∀ m,m≤12→Tre.JE d m=true→∃ ds,d= .tuple ds∧ds.length≤12:=fun m hm h=>by
  cases d with
  | tuple ds=>exact ⟨ds,rfl,Av (Ay h) hm⟩
  | _=>cases h
 rw [B4,Ax,Ax] at h;rcases h with rfl | rfl
 ·rw [Tre.jt] at hs;exact row 4 O0 hs
 ·rw [Tre.jc] at hs;exact row 12 O0 hs
theorem _root_.L2.Rep.tup_inv {H:Hp} {x:V} {ds:List PyData} (h:Rep K H x (.tuple ds)):∃ a xs,x= .ref a∧SqT K H a xs∧Reps K H xs ds:=by
 cases h with
 | tup hq hs=>exact ⟨_,_,rfl,hq,hs⟩
inductive Iv_TreF_0 (K:W.Frag) (H:Hp) (H0:Hp) (es:List PyData) (fs:List Str) (a:Addr) (ys:List V) (p0:Addr) (p1:Addr) (i:Nat) (σ:St) (H':Hp):Prop
 | mk:∀ o2 o3 zs,(σ=[some (.ref a),some (.ref p0),o2,o3])→(qw H H')→(H' p1=some (.tup ys))→(H' p0=some (.lst zs))→(Prs K H0 H' zs (((es.zip fs).take i).flatMap fun p=>Tre.ql p.1 p.2))→(zs.length≤12*i)→Iv_TreF_0 K H H0 es fs a ys p0 p1 i σ H'
theorem vx (F:Fun K "inner_with_shapes" "inner_with_shapes" zK f fd) (c:Cs K mg ad) (T:Tb P w K mg):FnOk P w K mg base CX0 1 f fd ["part"] (spInner K):=by
 refine F.ok zE (fun vs H Q E h=>?_) (fun cdv A outer s H vs Q E hr h=>?_)
 ·obtain ⟨x,d,sh,hands,H0,rfl,_⟩:=h;rfl
 obtain ⟨x,d,sh,hands,H0,rfl,gH,hk,hf,q⟩:=h;obtain ⟨hd,es,fs,_,rfl,_,_,hfs,hf5,hlen,hsh,_⟩:=Tre.qV hf;refine ⟨_,(qf (pst 1 zE.nd (zj qc))
   (qf (jf Bt rfl (qel (K:=K) rfl c.zip_ (qb (jY (Zr (K:=K) rfl) (pv 0) (Jg qh) J5) (qb (Xq (K:=K) rfl T.FORMS (pix K (pv 0) qh) (fun _ _=>rfl)) qc))) (YN (K:=K) rfl rfl (zN (pgn 2 zE.nd) (zN (pgn 3 zE.nd) vQ))) (qi (qN (qt zy (pv 3) qp (qD _)) (qi (za (JN (K:=K) rfl A5 B0 Bz zX (pv 1) (qb (qO (qb (pv 2) (qb (pv 3) qc))) qc)))) (qi (qN (qt (yx (K:=K) rfl) (pv 3) (qO (qb qp (qb qp qc))) rfl) (qi (za (JN (K:=K) rfl A5 Cf Cg jv (pv 1) (qb (jk (sc:=qj zK) (NX:=["part","found","thing","shape"]) (N:=["one","shape"]) (js:=[none,some 3]) (JP (K:=K) rfl (pv 2)) (fun _ _ _ _ _=>(zn (i:=0) (show (["one","shape"]:List Str).Nodup from ∅) rfl (Or.inl rfl))) (fun _ _ _ _ _=>jE) (fun _ _ _ _ _=>(qO (qb (pv 0) (qb (qgt T.MEMBERS (pv 1) (fun _ _=>rfl)) qc)))) (zF rfl) ⟨∅,rfl,∅,∅,rfl,∅⟩) qc)))) qB)))))
   (qi (qy (pv 1))))),?_⟩
 cases hk with
 | @tup a xs ds hq hs=>
  cases hs with
  | @cons y ys e es' r rs=>
   cases r;have hys:=rs.length;refine ⟨(O0:0≤sizeLine),fun p0 hp0=>?_⟩;have g0:=qe hp0 (.lst []);refine ⟨_,rfl,_,rfl,.inr (.inr ⟨a,_,rfl,(gH.trans g0).sqT hq,XX _ _,fun p1 hp1=>?_⟩)⟩;rw [qjr];have g1:=g0.trans (qe hp1 (.tup ys));have n01:p0≠p1:=qx upd_same hp1;refine ⟨_,rfl,ixT ((gH.trans g1).sqT hq) (qk (j:=0) rfl) ⟨hd,fs,rfl,hfs,fun a3 ha3=>⟨p1,a3,rfl,⟨ys,SqT.of upd_same⟩,⟨_,ha3 _⟩,?_⟩⟩⟩;refine JM es.length (Iv_TreF_0 K H H0 es fs a ys p0 p1) ?_ (fun i σ H2 hi h=>?_) (fun σ H2 h=>?_)
   ·exact ⟨none,none,[],rfl,g1,upd_same,by rw [qm n01];exact upd_same,.nil,Ah _⟩
   ·obtain ⟨o2,o3,zs,rfl,g2,h1,h0,pr,hz⟩:=h;obtain ⟨yi,hx⟩:=va (l:=ys) (i:=i) ⋯;obtain ⟨sh1,hfi⟩:=va (l:=fs) (i:=i) ⋯;have hy:(fs.map V.str)[i]?=some (.str sh1):=by rw [A0,hfi];rfl
    refine ⟨⟨ys,_,_,_,SqT.of h1,ha3 _,hx,hy⟩,fun v H3 yl D' hn _=>?_⟩;obtain ⟨q1,xx,yy,hq1,rfl,e1,e2,rfl⟩:=yl;have e3:=hx.symm.trans (e1 ys (SqT.of h1));cases e3;have e4:=hy.symm.trans (e2 _ (ha3 _));cases e4;obtain ⟨d,hd',rd⟩:=rs.get hx;have hm:(es.zip fs)[i]?=some (d,sh1):=D6.mpr ⟨hd',hfi⟩;have hshape:Tre.qA d sh1=true:=hsh _ (A9 hm);have step:((es.zip fs).take (i+1)).flatMap (fun p=>Tre.ql p.1 p.2)=((es.zip fs).take i).flatMap (fun p=>Tre.ql p.1 p.2)++Tre.ql d sh1:=by
     rw [Bb,hm,Ch];simp
    have g3:=qe hq1 (.tup [yi,.str sh1]);refine ⟨q1,_,rfl,SqT.of upd_same,rfl,_,_,rfl,_,_,rfl,rfl,?_⟩;have h0':=g3 _ _ h0;have h1':=g3 _ _ h1;have pr':=pr.same g3;have g2':=g2.trans g3;generalize upd H2 q1 (.tup [yi,.str sh1])=H3 at h0' h1' pr' g2' ⊢;refine ⟨_,rfl,rfl,_,rfl,?_⟩
    by_cases ht:sh1="term"
    ·refine qZ (show decide _=true from Ak (congrArg V.str ht)) ?_;refine ⟨_,rfl,.inl ⟨rfl,zs,SqL.of h0'⟩,_,rfl,_,rfl,(O0:2≤sizeLine),fun q2 hq2=>?_⟩;have g4:=qe hq2 (.tup [yi,.str sh1]);refine ⟨p0,zs,_,rfl,rfl,g4 _ _ h0',C4 (show zs.length≤100 from ⋯) O0,?_⟩;have e5:Tre.ql d sh1=[(d,sh1)]:=by unfold Tre.ql;rw [if_pos (Ax.mpr ht)]
     refine hn _ _ ⟨_,_,zs++[.ref q2],rfl,qL (g2'.trans g4) hp0 _,?_,upd_same,?_,?_⟩
     ·rw [qm (Ne.symm n01)];exact g4 _ _ h1'
     ·rw [step,e5];refine Prs.append (Prs.write (g4 _ _ h0') (pr'.same g4)) (.cons ⟨q2,yi,rfl,?_,rd⟩ .nil);rw [qm (Ne.symm (qx h0' hq2))];exact upd_same
     ·rw [Ac,At];omega
    ·refine qR (show decide _=false from As fun z=>ht (V.str.inj z)) ?_;refine ⟨_,rfl,(O0:2≤sizeLine),fun q2 hq2=>(inS (.inr (SqT.of upd_same)) rfl rfl ⟨_,rfl,?_⟩)⟩;have g4:=qe hq2 (.tup [.str "terms",.str "body"]);have h0'':=g4 _ _ h0';have h1'':=g4 _ _ h1';have pr'':=pr'.same g4;have g2'':=g2'.trans g4;generalize upd H3 q2 (.tup [.str "terms",.str "body"])=H4 at h0'' h1'' pr'' g2'' ⊢;have ht':(sh1=="term")=false:=Bc.mpr ht
     by_cases hb:(sh1=="terms"||sh1=="body")=true
     ·refine qZ (show inV _ _=true from (XI sh1 "terms" "body").trans hb) ?_;obtain ⟨ds2,rfl,h12⟩:=qif hb hshape;obtain ⟨at',ws,ew,hw,hrs⟩:=rd.tup_inv;have hwl:=hrs.length;refine ⟨_,rfl,.inl ⟨rfl,zs,SqL.of h0''⟩,_,rfl,.inr (.inl ⟨at',ew,⟨ws,(gH.trans g2'').sqT hw⟩,?_⟩)⟩;refine zG ds2.length (fun j vs H'=>qw H4 H'∧Prs K H0 H' vs ((ds2.take j).map fun z=>(z,(Tre.JC.lookup sh1).getD ""))) ⟨qw.refl _,.nil⟩ (fun j vs H' h=>?_) (Av h12 O0) (fun j vs H' hj h=>?_) (fun vs H' h=>?_)
      ·have:=Ce h.2;rw [this,Ab];exact Bv _ _
      ·obtain ⟨g5,pv⟩:=h;have hw2:=(gH.trans (g2''.trans g5)).sqT hw;have hxw:ws[j]?=some ws[j]:=Aq ⋯;refine ⟨⟨ws,_,hw2,hxw⟩,fun v H6 yl=>?_⟩;obtain ⟨rfl,hv⟩:=yl;have e6:=hxw.symm.trans (hv ws hw2);cases e6;obtain ⟨dd,hdd,rdd⟩:=hrs.get hxw;refine ⟨_,rfl,_,rfl,sh1,_,rfl,qev hb,(O0:2≤sizeLine),fun q3 hq3=>⟨g5.trans (qe hq3 _),?_⟩⟩;rw [Bb,hdd,An];exact Prs.append (pv.same (qe hq3 _)) (.cons ⟨q3,ws[j],rfl,upd_same,rdd⟩ .nil)
      ·obtain ⟨g5,pv⟩:=h;refine ⟨⟨ws,(gH.trans (g2''.trans g5)).sqT hw,⋯⟩,fun D hD=>?_⟩;rw [Bp] at pv;have hvl:=Ce pv;rw [Ab] at hvl;have g6:=g5.trans (qe hD (.lst vs));refine ⟨p0,D,zs,vs,rfl,rfl,g6 _ _ h0'',upd_same,Av (show zs.length+vs.length≤100 from ⋯) O0,?_⟩;have e5:Tre.ql (.tuple ds2) sh1=ds2.map fun z=>(z,(Tre.JC.lookup sh1).getD ""):=by
        unfold Tre.ql;rw [if_neg (by rw [ht'];exact Ag),if_pos hb]
       refine hn _ _ ⟨_,_,zs++vs,rfl,qL (g2''.trans g6) hp0 _,?_,upd_same,?_,?_⟩
       ·rw [qm (Ne.symm n01)];exact g6 _ _ h1''
       ·rw [step,e5];exact Prs.append (Prs.write (g6 _ _ h0'') (pr''.same g6)) (Prs.write (g6 _ _ h0'') (pv.same (qe hD _)))
       ·rw [Ac];omega
     ·have hb':=Bo.mpr hb;refine qR (show inV _ _=false from (XI sh1 "terms" "body").trans hb') ?_;have e5:Tre.ql d sh1=[]:=by
       unfold Tre.ql;rw [if_neg (by rw [ht'];exact Ag),if_neg (by rw [hb'];exact Ag)]
      refine hn _ _ ⟨_,_,zs,rfl,g2'',h1'',h0'',?_,⋯⟩;rw [step,e5,A6];exact pr''
   ·obtain ⟨o2,o3,zs,rfl,g2,h1,h0,pr,hz⟩:=h;refine ⟨⟨ys,_,SqT.of h1,ha3 _,.inl ⋯⟩,_,rfl,q _ p0 zs g2 hp0 h0 ?_⟩;have e5:Tre.zi (.tuple (.str hd::es))=((es.zip fs).take es.length).flatMap fun p=>Tre.ql p.1 p.2:=by
     show ((es.zip ((Tre.forms.lookup hd).getD [])).flatMap _)=_;rw [hfs,Dc (by rw [Ef];omega)]
     rfl
    rw [e5];exact pr
inductive spWithin (K:Frag) (vs:List V) (H:Hp) (Q:VK) (E':XK):Prop
 | mk:∀ x h es hands,(vs=[x,.bl hands])→(Rep K H x (.tuple (.str h::es)))→(∀ H',qw H H'→Q (.bl (Tre.j5 (.tuple (.str h::es)) hands)) H')→spWithin K vs H Q E'
def wO (K:Frag):TS:=jb (qj9 (qg 1) (tOp (rIn K false) (tOp (rIx K) (qg 0) (tC (V.int 0))) (jl (qd (tC (V.str "main")) (qd (tC (V.str "loop")) qo)))))
theorem Ws (F:Fun K "hands_within" "hands_within" Jq f fd) (c:Cs K mg ad):FnOk P w K mg base CX0 1 f fd ["part","hands"] (spWithin K):=by
 refine F.ok Wo (fun vs H Q E h=>?_) (fun cdv A outer s H vs Q E hr h=>?_)
 ·obtain ⟨x,h,es,hands,rfl,_⟩:=h;rfl
 obtain ⟨x,h,es,hands,rfl,hk,q⟩:=h;refine ⟨_,(qf (qN (qt zy (pix K (pv 0) qh) qp (qD _)) (qi (qy jZ)) qB)
   (qi (qy (qhx (pv 1) (Vr (jF (yx (K:=K) rfl) (pix K (pv 0) qh) (qO (qb qp (qb qp qc))) rfl)))))),?_⟩
 show qG (zz (qI (tOp rEq (tOp (rIx K) (qg 0) (tC (V.int 0))) (tC (V.str "fun")))) (jb (tC (V.bl false))) zg) (wO K) _ _ _;obtain ⟨a,xs,rfl,hq,hs⟩:=hk.tup_inv;cases hs with
 | @cons y ys e es' r rs=>
  cases r;have e1:Tre.j5 (.tuple (.str h::es)) hands=if h=="fun" then false else hands||(h=="main"||h=="loop"):=rfl
  rw [e1] at q;refine ⟨_,rfl,ixT hq (qk (j:=0) rfl) ⟨rfl,_,rfl,?_⟩⟩
  by_cases hf:h="fun"
  ·refine qZ (show decide _=true from Ak (congrArg V.str hf)) ?_;rw [if_pos (Ax.mpr hf)] at q;exact q _ (qw.refl _)
  ·refine qR (show decide _=false from As fun z=>hf (V.str.inj z)) ?_;rw [if_neg (fun z=>hf (Ax.mp z))] at q;refine ⟨_,rfl,_,rfl,?_⟩;cases hands with
   | true=>exact vB (q _ (qw.refl _))
   | false=>
    refine ZW ⟨_,rfl,ixT hq (qk (j:=0) rfl) ⟨(O0:2≤sizeLine),fun p hp=>(inS (.inr (SqT.of upd_same)) rfl rfl ?_)⟩⟩;have q':=q _ (qe hp (.tup [.str "main",.str "loop"]));rw [Bool.false_or,← XI h "main" "loop"] at q';exact q'
abbrev Trs (K:Frag) (H0 H:Hp):List V→Tre.Lv→Prop:=Paired fun (y:V) (q:PyData×Str×Bool)=>∃ a x,y= .ref a∧H a=some (.tup [x,.str q.2.1,.bl q.2.2])∧Rep K H0 x q.1
theorem Trs.write {H0 H:Hp} {p:Addr} {zs:List V} {o:HO} {ys:List V} {l:Tre.Lv} (hp:H p=some (.lst zs)) (h:Trs K H0 H ys l):Trs K H0 (upd H p o) ys l:=
 L2.Paired.mapP h fun _ _ ⟨a,x,e,ha,r⟩=>⟨a,x,e,by rw [qm (We ha hp (by intro z;cases z))];exact ha,r⟩
theorem Trs.same {H0 H H':Hp} {ys:List V} {l:Tre.Lv} (g:qw H H') (h:Trs K H0 H ys l):Trs K H0 H' ys l:=L2.Paired.mapP h fun _ _ ⟨a,x,e,ha,r⟩=>⟨a,x,e,g _ _ ha,r⟩
theorem Trs.append {H0 H:Hp}:∀ {ys zs:List V} {l m:Tre.Lv},Trs K H0 H ys l→Trs K H0 H zs m→Trs K H0 H (ys++zs) (l++m)
 | _,_,_,_,.nil,h=>h
 | _,_,_,_,.cons r t,h=> .cons r (Trs.append t h)
theorem Trs.get {H0 H:Hp}:∀ {ys:List V} {l:Tre.Lv} {i:Nat} {q:PyData×Str×Bool},Trs K H0 H ys l→l[i]?=some q→∃ a x,ys[i]?=some (.ref a)∧H a=some (.tup [x,.str q.2.1,.bl q.2.2])∧Rep K H0 x q.1
 | _,_,_,_,.nil,h=>by simp at h
 | _,_,0,_,.cons ⟨a,x,e,ha,r⟩ t,h=>by
  simp at h;subst h;exact ⟨a,x,by rw [e];rfl,ha,r⟩
 | _,_,i+1,_,.cons r t,h=>by
  simp only [Da] at h ⊢;exact Trs.get t h
theorem Prs.get {H0 H:Hp}:∀ {ys:List V} {l:List (PyData×Str)} {i:Nat} {q:PyData×Str},Prs K H0 H ys l→l[i]?=some q→∃ a x,ys[i]?=some (.ref a)∧H a=some (.tup [x,.str q.2])∧Rep K H0 x q.1
 | _,_,_,_,.nil,h=>by simp at h
 | _,_,0,_,.cons ⟨a,x,e,ha,r⟩ t,h=>by
  simp at h;subst h;exact ⟨a,x,by rw [e];rfl,ha,r⟩
 | _,_,i+1,_,.cons r t,h=>by
  simp only [Da] at h ⊢;exact Prs.get t h
inductive PvP (K:Frag) (x:V) (d:PyData) (H:Hp) (m:Nat) (σ:St) (H':Hp):Prop
 | mk:∀ (L:Addr) (zs:List V) (lv:Tre.Lv) (n sz:Nat) (o4 o5 o6 o7 o8:Option V),(σ=[some x,some (.ref L),some (.int n),some (.int sz),o4,o5,o6,o7,o8])→(qw H H')→(H' L=some (.lst zs))→(H L=none)→(Trs K H H' zs lv)→(m+n=20)→(Tre.WU m sz lv=Tre.zY d)→((∀ p∈lv,Tre.fit p.1=true∧(Tre.heads.lookup p.2.1).isSome=true))→(sz≤300)→(lv.length≤18000)→PvP K x d H m σ H'
theorem qbp (n sz:Nat):Tre.WU n sz []=true:=by cases n <;> rfl
inductive Iv_TreH_0 (K:W.Frag) (H:Hp) (x:V) (L:Addr) (zs:List V) (lv:Tre.Lv) (n:Nat) (sz:Nat) (B:Addr) (i:Nat) (σ:St) (H':Hp):Prop
 | mk:∀ o5 o6 o7 o8 bs,(σ=[some x,some (.ref L),some (.int ((n:Int)+1)),some (.int ((sz:Int)+(zs.length:Nat))),some (.ref B),o5,o6,o7,o8])→(qw H H')→(H' L=some (.lst zs))→(H' B=some (.lst bs))→(Trs K H H' zs lv)→(Trs K H H' bs (Tre.below (lv.take i)))→(∀ p∈lv.take i,Tre.qK p.1 p.2.1 p.2.2=true)→Iv_TreH_0 K H x L zs lv n sz B i σ H'
theorem Yg (F:Fun K "is_program" "is_program" Je f fd) (c:Cs K mg ad) (d_has_form:Def P w K mg base 4 "has_form" ["thing","shape","hands"] (spForm K)) (d_hands_within:Def P w K mg base 1 "hands_within" ["part","hands"] (spWithin K)) (d_inner_with_shapes:Def P w K mg base 1 "inner_with_shapes" ["part"] (spInner K)):FnOk P w K mg base CX0 5 f fd ["thing"] (spD K Tre.zY):=by
 refine F.ok qT (fun vs H Q E h=>?_) (fun cdv A outer s H vs Q E hr h=>?_)
 ·obtain ⟨x,d,rfl,_⟩:=h;rfl
 obtain ⟨x,d,rfl,hk,ft,q⟩:=h;refine ⟨_,(qf (pst 1 qT.nd (zj (qb (qO (qb (pv 0) (qb qp (qb jZ qc)))) qc)))
   (qf (pst 2 qT.nd qh)
   (qf (pst 3 qT.nd qh)
   (qf (Jr Bt (qil (K:=K) rfl (pv 1)) (qf (qej (i:=2) qT.nd rfl (by first | exact Or.inl rfl | exact Or.inr rfl) qh qe1)
   (qf (qej (i:=3) qT.nd rfl (by first | exact Or.inl rfl | exact Or.inr rfl) (qz (jw (K:=K) rfl) (by rfl) c.len_ zJ (qb (pv 1) qc)) qe1)
   (qf (qN (PW.pt (ve (qt qaw (pv 2) (Vs c.MOST_DEPTH) (qD _)) (JK (qt qaw (pv 3) (Vs c.MOST_PARTS) (qD _))))) (qi (qy jZ)) qB)
   (qf (pst 4 qT.nd (zj qc))
   (qf (jf Bt rfl (JP (K:=K) rfl (pv 1)) (YN (K:=K) rfl rfl (zN (pgn 5 qT.nd) (zN (pgn 6 qT.nd) (zN (pgn 7 qT.nd) vQ)))) (qf (qN (jM (zZ (pdf d_has_form (qb (pv 5) (qb (pv 6) (qb (pv 7) qc)))))) (qi (qy jZ)) qB)
   (qf (pst 8 qT.nd (pdf d_hands_within (qb (pv 5) (qb (pv 7) qc))))
   (qi (za (JN (K:=K) rfl A5 Cf Cg jv (pv 4) (qb (jk (sc:=qj Je) (NX:=["thing","level","depth","size","below","part","shape","hands","within"]) (N:=["inner","inner_shape","within"]) (js:=[none,none,some 8]) (JP (K:=K) rfl (pdf d_inner_with_shapes (qb (pv 5) qc))) (fun _ _ _ _ _=>(YN (K:=K) rfl rfl (zN (zn (i:=0) (show (["inner","inner_shape","within"]:List Str).Nodup from ∅) rfl (Or.inl rfl)) (zN (zn (i:=1) (show (["inner","inner_shape","within"]:List Str).Nodup from ∅) rfl (Or.inl rfl)) vQ)))) (fun _ _ _ _ _=>jE) (fun _ _ _ _ _=>(qO (qb (pv 0) (qb (pv 1) (qb (pv 2) qc))))) (Xs rfl rfl) ⟨∅,rfl,∅,∅,rfl,∅⟩) qc)))))))
   (qi (pst 1 qT.nd (pv 4)))))))))
   (qi (qy jZ)))))),?_⟩
 refine ⟨_,rfl,(O0:3≤sizeLine),fun p1 hp1=>⟨(O0:1≤sizeLine),fun L0 hL0=>?_⟩⟩;have g0:=(qe hp1 (.tup [x,.str "program",.bl false])).trans (qe hL0 (.lst [.ref p1]));refine ⟨PvP K x d H,⟨20,?_⟩,?_⟩
 ·refine ⟨L0,_,[(d,"program",false)],0,0,none,none,none,none,none,rfl,g0,upd_same,(qe hp1 _).free hL0,?_,rfl,rfl,fun p hp=>?_,O0,by simp⟩
  ·exact .cons ⟨p1,x,rfl,by rw [qm (qx upd_same hL0)];exact upd_same,hk⟩ .nil
  ·rw [Az] at hp;subst hp;exact ⟨ft,by show (Tre.heads.lookup (Str.ofString "program")).isSome=true;decide+kernel⟩
 ·rintro m σ H1 ⟨L,zs,lv,n,sz,o4,o5,o6,o7,o8,rfl,g,hL,hL0',tr,hn,hw,hlv,hsz,hll⟩;refine ⟨_,rfl,_,.inl ⟨zs,SqL.of hL,rfl⟩,?_⟩
  by_cases he:lv=[]
  ·subst he;cases tr;rw [qbp] at hw;rw [← hw] at q;exact q _ g
  have hlen:=Ce tr;have hz1:1≤lv.length:=by
   cases lv with
   | nil=>exact absurd rfl he
   | cons _ _=>simp
  have hemp:lv.isEmpty=false:=by
   cases lv with
   | nil=>exact absurd rfl he
   | cons _ _=>rfl
  have qF:Tre.zY d=false→∀ H',qw H H'→Q (.bl false) H':=fun e H' g'=>e▸q H' g';refine qZ (show (!zs.isEmpty)=true by cases zs with | nil=>simp at hlen;omega | cons _ _=>rfl) ?_
  refine ⟨fun σ' H'=>∃ m',m'<m∧PvP K x d H m' σ' H',fun σ' H' h=>h,?_⟩;refine ⟨_,rfl,_,_,rfl,rfl,_,rfl,_,rfl,_,_,rfl,.inl ⟨zs,SqL.of hL,rfl⟩,_,_,rfl,rfl,?_⟩;refine ⟨_,rfl,_,_,rfl,rfl,_,rfl,?_⟩;cases m with
  | zero=>
   refine qZ (show decide _=true from Ak (by show (20:Int)<(n:Int)+1;omega)) (vB (qF ?_ _ g))
   rw [← hw];exact hemp
  | succ m=>
   refine qR (show decide _=false from As (by show ¬ (20:Int)<(n:Int)+1;omega)) ?_
   refine ⟨_,rfl,_,_,rfl,rfl,_,rfl,?_⟩;rw [Tre.WU,hemp,Bool.false_or] at hw
   by_cases hs:sz+lv.length≤300
   ·refine qR (show decide _=false from As (by show ¬ (300:Int)<(sz:Int)+((zs.length:Nat):Int);omega)) ?_
    rw [Ak hs,Cm] at hw;refine ⟨(O0:0≤sizeLine),fun B hB=>?_⟩;have gB:=qe hB (.lst []);have hB0:H B=none:=g.free hB;have nLB:L≠B:=qx hL hB;refine ⟨_,rfl,.inl ⟨L,rfl,⟨zs,SqL.of (gB _ _ hL)⟩,?_⟩⟩;refine JM lv.length (Iv_TreH_0 K H x L zs lv n sz B) ?_ (fun i σ H2 hi h=>?_) (fun σ H2 h=>?_)
    ·exact ⟨_,_,_,_,[],rfl,g.trans gB,gB _ _ hL,upd_same,tr.same gB,.nil,fun p hp=>by simp at hp⟩
    ·obtain ⟨o5,o6,o7,o8,bs,rfl,g2,hL2,hB2,tr2,trb,hfs⟩:=h;have hqi:lv[i]?=some lv[i]:=Aq hi;generalize lv[i]=p at hqi;obtain ⟨a,xi,hzi,hai,rxi⟩:=tr2.get hqi;refine ⟨⟨zs,_,SqL.of hL2,hzi⟩,fun v H3 yl D' hn hr'=>?_⟩;obtain ⟨rfl,hv⟩:=yl;have e1:=hzi.symm.trans (hv zs (SqL.of hL2));cases e1;refine ⟨a,_,rfl,SqT.of hai,rfl,_,_,rfl,_,_,rfl,_,_,rfl,rfl,?_⟩;obtain ⟨hfit,hhd⟩:=hlv p (A9 hqi);refine ⟨_,rfl,_,rfl,_,rfl,xi,p.1,p.2.1,p.2.2,rfl,rxi.same g2,hfit,hhd,fun H4 g4=>⟨_,rfl,?_⟩⟩
     by_cases hf:Tre.qK p.1 p.2.1 p.2.2=true
     ·refine qR (show (!Tre.qK p.1 p.2.1 p.2.2)=false by rw [hf];rfl) ?_
      obtain ⟨hd,es,fs,l,ep,_⟩:=Tre.qV hf;refine ⟨_,rfl,_,rfl,xi,hd,es,p.2.2,rfl,ep▸rxi.same (g2.trans g4),fun H5 g5=>?_⟩;have g25:=(g2.trans g4).trans g5;have g35:=g4.trans g5;have hB5:=g35 _ _ hB2;refine ⟨_,rfl,.inl ⟨rfl,bs,SqL.of hB5⟩,_,rfl,xi,p.1,p.2.1,p.2.2,H,rfl,g25,rxi,hf,fun H6 p6 ps g6 hp6 hl6 prs=> .inl ⟨p6,rfl,⟨ps,SqL.of hl6⟩,?_⟩⟩;have hpl:=Ce prs;have hil:=Tre.VY hf;refine zG (Tre.zi p.1).length (fun j vs H'=>qw H6 H'∧Trs K H H' vs (((Tre.zi p.1).take j).map fun z=>(z.1,z.2,Tre.j5 p.1 p.2.2))) ⟨qw.refl _,.nil⟩ (fun j vs H' h=>?_) (Av hil O0) (fun j vs H' hj h=>?_) (fun vs H' h=>?_)
      ·have:=Ce h.2;rw [this,Ab];exact Bv _ _
      ·obtain ⟨g7,tv⟩:=h;have hj2:(Tre.zi p.1)[j]?=some (Tre.zi p.1)[j]:=Aq hj;generalize (Tre.zi p.1)[j]=z at hj2;obtain ⟨az,xz,hpz,haz,rxz⟩:=prs.get hj2;refine ⟨⟨ps,_,SqL.of (g7 _ _ hl6),hpz⟩,fun v H8 yl=>?_⟩;obtain ⟨rfl,hv⟩:=yl;have e6:=hpz.symm.trans (hv ps (SqL.of (g7 _ _ hl6)));cases e6;refine ⟨az,_,rfl,SqT.of (g7 _ _ haz),rfl,_,_,rfl,_,_,rfl,rfl,?_⟩;refine ⟨_,rfl,_,rfl,_,rfl,(O0:3≤sizeLine),fun q3 hq3=>⟨g7.trans (qe hq3 _),?_⟩⟩;rw [Bb,hj2,An];refine Trs.append (tv.same (qe hq3 _)) (.cons ⟨q3,xz,rfl,?_,rxz⟩ .nil);rw [upd_same,ep]
      ·obtain ⟨g7,tv⟩:=h;refine ⟨⟨ps,SqL.of (g7 _ _ hl6),⋯⟩,fun D hD=>?_⟩;rw [Bp] at tv;have hvl:=Ce tv;rw [Ab] at hvl;have hbl:=Ce trb;have hbb:=Tre.Qg hfs;have hti:=Bv i lv;have gD:=qe hD (.lst vs);have g3D:=((g35.trans g6).trans g7).trans gD;refine ⟨B,D,bs,vs,rfl,rfl,g3D _ _ hB2,upd_same,Av (show bs.length+vs.length≤100000 from ⋯) O0,?_⟩;have eb:Tre.below (lv.take (i+1))=Tre.below (lv.take i)++(Tre.zi p.1).map fun z=>(z.1,z.2,Tre.j5 p.1 p.2.2):=by
        unfold Tre.below;rw [Bb,hqi,Ch];simp
       refine hn _ _ ⟨_,_,_,_,bs++vs,rfl,qL (g2.trans g3D) hB0 _,?_,upd_same,Trs.write (g3D _ _ hB2) (tr2.same g3D),?_,fun p' hp'=>?_⟩
       ·rw [qm nLB];exact g3D _ _ hL2
       ·rw [eb];exact Trs.append (Trs.write (g3D _ _ hB2) (trb.same g3D)) (Trs.write (g3D _ _ hB2) (tv.same gD))
       ·rw [Bb,hqi,Bl] at hp';rcases hp' with hp' | hp'
        ·exact hfs p' hp'
        ·simp at hp';subst hp';exact hf
     ·have hf':=Bo.mpr hf;refine qZ (show (!Tre.qK p.1 p.2.1 p.2.2)=true by rw [hf'];rfl) (hr' _ _ (qF ?_ _ (g2.trans g4)))
      rw [← hw];have:(List.all lv fun p=>Tre.qK p.1 p.2.1 p.2.2)=false:=by
       rw [List.all_eq_false];exact ⟨p,A9 hqi,hf⟩
      rw [this,Cp]
    ·obtain ⟨o5,o6,o7,o8,bs,rfl,g2,hL2,hB2,tr2,trb,hfs⟩:=h;rw [Bp] at trb hfs;have e1:(n:Int)+1=((n+1:Nat):Int):=⋯;have e2:(sz:Int)+((zs.length:Nat):Int)=((sz+lv.length:Nat):Int):=⋯;have hbb:=Tre.Qg hfs;refine ⟨⟨zs,SqL.of hL2,⋯⟩,_,rfl,m,Er m,B,bs,Tre.below lv,n+1,sz+lv.length,some (.ref B),o5,o6,o7,o8,?_,g2,hB2,hB0,trb,⋯,?_,fun p hp=>?_,hs,⋯⟩
     ·show [some x,some (.ref B),some (.int ((n:Int)+1)),some (.int ((sz:Int)+((zs.length:Nat):Int))),some (.ref B),o5,o6,o7,o8]=_;rw [e1,e2]
     ·rw [← hw];have:(List.all lv fun p=>Tre.qK p.1 p.2.1 p.2.2)=true:=A3.mpr fun p hp=>hfs p hp;rw [this,Cm]
     ·obtain ⟨q',hq',hp2⟩:=C2.mp hp;obtain ⟨z,hz,rfl⟩:=By.mp hp2;refine ⟨Tre.qcq (hlv q' hq').1 hz,?_⟩;rcases Tre.yt hz with e | e
      ·show (Tre.heads.lookup z.2).isSome=true;rw [e];decide+kernel
      ·show (Tre.heads.lookup z.2).isSome=true;rw [e];decide+kernel
   ·refine qZ (show decide _=true from Ak (by show (300:Int)<(sz:Int)+((zs.length:Nat):Int);omega)) (qF ?_ _ g)
    rw [← hw,As hs];rfl
inductive spInnerOf (K:Frag) (vs:List V) (H:Hp) (Q:VK) (E':XK):Prop
 | mk:∀ x d sh hands H0,(vs=[x])→(qw H0 H)→(Rep K H0 x d)→(Tre.qK d sh hands=true)→(∀ H' p zs,qw H H'→H p=none→H' p=some (.lst zs)→Reps K H0 zs (Tre.zm d)→Q (.ref p) H')→spInnerOf K vs H Q E'
theorem ZL (F:Fun K "inner_of" "inner_of" J2 f fd) (c:Cs K mg ad) (d_inner_with_shapes:Def P w K mg base 1 "inner_with_shapes" ["part"] (spInner K)):FnOk P w K mg base CX0 2 f fd ["part"] (spInnerOf K):=by
 refine F.ok Zx (fun vs H Q E h=>?_) (fun cdv A outer s H vs Q E hr h=>?_)
 ·obtain ⟨x,d,sh,hands,H0,rfl,_⟩:=h;rfl
 obtain ⟨x,d,sh,hands,H0,rfl,gH,hk,hf,q⟩:=h;refine ⟨_,(qi (qy (jk (sc:=qj J2) (NX:=["part"]) (N:=["inner","shape"]) (js:=[none,none]) (JP (K:=K) rfl (pdf d_inner_with_shapes (qb (pv 0) qc))) (fun _ _ _ _ _=>(YN (K:=K) rfl rfl (zN (zn (i:=0) (show (["inner","shape"]:List Str).Nodup from ∅) rfl (Or.inl rfl)) (zN (zn (i:=1) (show (["inner","shape"]:List Str).Nodup from ∅) rfl (Or.inl rfl)) vQ)))) (fun _ _ _ _ _=>jE) (fun _ _ _ _ _=>(pv 0)) (Xs rfl rfl) ⟨∅,rfl,∅,∅,rfl,∅⟩))),?_⟩;refine ⟨_,rfl,x,d,sh,hands,H0,rfl,gH,hk,hf,fun H6 p6 ps g6 hp6 hl6 prs=> .inl ⟨p6,rfl,⟨ps,SqL.of hl6⟩,?_⟩⟩;have hpl:=Ce prs;have hil:=Tre.VY hf;refine zG (Tre.zi d).length (fun j vs H'=>qw H6 H'∧Reps K H0 vs (((Tre.zi d).take j).map fun z=>z.1)) ⟨qw.refl _,.nil⟩ (fun j vs H' h=>?_) (Av hil O0) (fun j vs H' hj h=>?_) (fun vs H' h=>?_)
 ·have:=Reps.length h.2;rw [this,Ab];exact Bv _ _
 ·obtain ⟨g7,tv⟩:=h;have hj2:(Tre.zi d)[j]?=some (Tre.zi d)[j]:=Aq hj;generalize (Tre.zi d)[j]=z at hj2;obtain ⟨az,xz,hpz,haz,rxz⟩:=prs.get hj2;refine ⟨⟨ps,_,SqL.of (g7 _ _ hl6),hpz⟩,fun v H8 yl=>?_⟩;obtain ⟨rfl,hv⟩:=yl;have e6:=hpz.symm.trans (hv ps (SqL.of (g7 _ _ hl6)));cases e6;refine ⟨az,_,rfl,SqT.of (g7 _ _ haz),rfl,_,_,rfl,_,_,rfl,rfl,?_⟩;refine ⟨_,rfl,g7,?_⟩;rw [Bb,hj2,An];exact tv.append (.cons rxz .nil)
 ·obtain ⟨g7,tv⟩:=h;rw [Bp] at tv;refine ⟨⟨ps,SqL.of (g7 _ _ hl6),⋯⟩,fun D hD=>?_⟩;exact q _ D vs ((g6.trans g7).trans (qe hD _)) ((g6.trans g7).free hD) upd_same tv
inductive spCell (K:Frag) (vs:List V) (H:Hp) (Q:VK) (E':XK):Prop
 | mk:∀ (a:Addr) (ns:List Int) (k:Int),(vs=[.ref a,.int k])→(SqL K H a (ns.map V.int))→(0≤k)→(∀ i,Q (.int i) H)→spCell K vs H Q E'
theorem yh (F:Fun K "_law_cell_at" "_law_cell_at" JI f fd) (c:Cs K mg ad):FnOk P w K mg base CX0 1 f fd ["_law_script","_law_k"] (spCell K):=by
 refine F.ok W4 (fun vs H Q E h=>?_) (fun cdv A outer s H vs Q E hr h=>?_)
 ·obtain ⟨a,ns,k,rfl,_⟩:=h;rfl
 obtain ⟨a,ns,k,rfl,hS,hk,q⟩:=h;refine ⟨_,(qf (qN (qt Vd (pv 1) (qz (jw (K:=K) rfl) (by rfl) c.len_ zJ (qb (pv 0) qc)) (qD _)) (qi (qy (pix K (pv 0) (pv 1)))) qB)
   (qi (qy qh))),?_⟩
 refine ⟨_,rfl,_,rfl,_,_,rfl,.inl ⟨_,hS,rfl⟩,_,_,rfl,rfl,_,rfl,?_⟩;refine v1 (fun c1=>?_) (fun c1=>?_)
 ·have c1':k<(((ns.map V.int).length:Nat):Int):=Ay c1;rw [Ab] at c1';have hk2:k.toNat<ns.length:=⋯;have ek:k=((k.toNat:Nat):Int):=⋯;have hv:atI (ns.map V.int) ((k.toNat:Nat):Int)=some (.int ns[k.toNat]):=qk (by rw [A0,Aq hk2] <;> rfl)
  rw [← ek] at hv;exact ⟨_,rfl,_,rfl,ixL hS hv (q _)⟩
 ·exact q 0
def stK (a:Addr) (k l:Int) (nm:Addr):List (Key×V):=[(Sum.inr "cells",.ref a),(Sum.inr "at",.int k),(Sum.inr "left",.int l),(Sum.inr "names",.ref nm)]
theorem kne {a b:Str} (h:¬ a=b):¬ (Sum.inr a:Key)=Sum.inr b:=fun e=>h (Sum.inr.inj e)
theorem qja:¬ (Sum.inr ("cells":Str):Key)=Sum.inr ("at":Str):=kne ∅
theorem qi9:¬ (Sum.inr ("cells":Str):Key)=Sum.inr ("left":Str):=kne ∅
theorem qk2:¬ (Sum.inr ("cells":Str):Key)=Sum.inr ("names":Str):=kne ∅
theorem qjb:¬ (Sum.inr ("at":Str):Key)=Sum.inr ("left":Str):=kne ∅
theorem qk3:¬ (Sum.inr ("at":Str):Key)=Sum.inr ("names":Str):=kne ∅
theorem qk1:¬ (Sum.inr ("left":Str):Key)=Sum.inr ("names":Str):=kne ∅
theorem n_la:¬ (Sum.inr ("left":Str):Key)=Sum.inr ("at":Str):=kne ∅
theorem n_na:¬ (Sum.inr ("names":Str):Key)=Sum.inr ("at":Str):=kne ∅
theorem n_nl:¬ (Sum.inr ("names":Str):Key)=Sum.inr ("left":Str):=kne ∅
section
variable (a:Addr) (k l:Int) (nm:Addr)
theorem qd5:vj (stK a k l nm) (Sum.inr "cells")=some (.ref a):=Ji rfl
theorem qd6:vj (stK a k l nm) (Sum.inr "at")=some (.int k):=(jy qja).trans (Ji rfl)
theorem vN:vj (stK a k l nm) (Sum.inr "left")=some (.int l):=(jy qi9).trans ((jy qjb).trans (Ji rfl))
theorem Zq:vj (stK a k l nm) (Sum.inr "names")=some (.ref nm):=(jy qk2).trans ((jy qk3).trans ((jy qk1).trans (Ji rfl)))
theorem qd4 (j:Int):je (stK a k l nm) (Sum.inr "at") (.int j)=stK a j l nm:=by
 unfold je;rw [if_pos (by rw [vi,qd6];rfl)]
 unfold stK;simp only [Ba,Em];rw [if_neg qja,if_pos trivial,if_neg n_la,if_neg n_na]
theorem W1 (j:Int):je (stK a k l nm) (Sum.inr "left") (.int j)=stK a k j nm:=by
 unfold je;rw [if_pos (by rw [vi,vN];rfl)]
 unfold stK;simp only [Ba,Em];rw [if_neg qi9,if_neg qjb,if_pos trivial,if_neg n_nl]
end
inductive spNext (K:Frag) (vs:List V) (H:Hp) (Q:VK) (E':XK):Prop
 | mk:∀ (d a nm:Addr) (ns:List Int) (k l:Int),(vs=[.ref d])→(H d=some (.dK (stK a k l nm)))→(SqL K H a (ns.map V.int))→(0≤k)→(k≤1000000)→(∀ (n:Int) (H':Hp),0≤n→n<268435456→H'=upd H d (.dK (stK a (k+1) l nm))→Q (.int n) H')→spNext K vs H Q E'
theorem ZK (F:Fun K "_law_next" "_law_next" Vp f fd) (c:Cs K mg ad) (d_law_cell_at:Def P w K mg base 1 "_law_cell_at" ["_law_script","_law_k"] (spCell K)):FnOk P w K mg base CX0 2 f fd ["_law_state"] (spNext K):=by
 refine F.ok vo (fun vs H Q E h=>?_) (fun cdv A outer s H vs Q E hr h=>?_)
 ·obtain ⟨d,a,nm,ns,k,l,rfl,_⟩:=h;rfl
 obtain ⟨d,a,nm,ns,k,l,rfl,hd,hS,hk0,hk1,q⟩:=h;have hu:=yz hr;refine ⟨_,(qf (vP hu (pv 0) qp (qu zb (jp hu (pv 0) qp (fun _ _=>rfl)) qh) rfl)
   (qf (pst 1 vo.nd (jp hu (pv 0) qp (fun _ _=>rfl)))
   (qf (pst 2 vo.nd (pdf d_law_cell_at (qb (jp hu (pv 0) qp (fun _ _=>rfl)) (qb (qu zc (pv 1) (qz (qc8 rfl) (by rfl) c.max_ qju (qb qh (qb (qz (jw (K:=K) rfl) (by rfl) c.len_ zJ (qb (jp hu (pv 0) qp (fun _ _=>rfl)) qc)) qc)))) qc))))
   (qi (qy (qu jq (qu zc (qu zb (qu Vu (pv 2) qh) (qu Vu (qu Vu (pv 1) (pv 1)) qh)) qh) qh)))))),?_⟩
 clear hu;refine ⟨_,rfl,_,_,rfl,(by rw [← qd6 a k l nm];exact j9.k (k:=Sum.inr "at") hd),.inl ⟨_,_,rfl,rfl,?_⟩⟩
 refine ⟨_,rfl,d,upd H d (.dK (stK a (k+1) l nm)),rfl,(by rw [← qd4 a k l nm (k+1)];exact YD.k (k:=Sum.inr "at") hd (C4 (show 4≤1000 from O0) O0)),?_⟩
 have hd':upd H d (.dK (stK a (k+1) l nm)) d=some (.dK (stK a (k+1) l nm)):=upd_same;have hS':SqL K (upd H d (.dK (stK a (k+1) l nm))) a (ns.map V.int):=(Stay.put hd).sqL hS;have gAt:j9 (upd H d (.dK (stK a (k+1) l nm))) d (.str "at") (some (.int (k+1))):=by rw [← qd6 a (k+1) l nm];exact j9.k (k:=Sum.inr "at") hd'
 have gCe:j9 (upd H d (.dK (stK a (k+1) l nm))) d (.str "cells") (some (.ref a)):=by rw [← qd5 a (k+1) l nm];exact j9.k (k:=Sum.inr "cells") hd'
 have hm:0<(if (((ns.map V.int).length:Nat):Int)>1 then (((ns.map V.int).length:Nat):Int) else 1):=by split <;> omega
 refine ⟨_,rfl,d,_,rfl,gAt,_,rfl,d,_,rfl,gCe,_,rfl,_,rfl,d,_,rfl,gCe,_,_,rfl,.inl ⟨_,hS',rfl⟩,_,_,rfl,_,_,rfl,rfl,hm,a,ns,_,rfl,hS',Bf _ ⋯,fun i=>?_⟩;have b1:qfu (k+1) (k+1):= .inl ⟨⋯,⋯⟩;refine ⟨_,rfl,_,_,rfl,rfl,.inr ⟨O0,O0⟩,_,rfl,_,rfl,_,_,rfl,rfl,b1,_,_,rfl,rfl,.inr ⟨O0,O0⟩,.inl ⟨_,_,rfl,rfl,_,_,rfl,rfl,(show (0:Int)<2147483647 from O0),_,_,rfl,rfl,⟨O0,O0⟩,?_⟩⟩;refine q _ _ ?_ ?_ rfl
 ·exact Int.ediv_nonneg (Bf _ O0) O0
 ·have:=A7 (i*48271+(k+1)*(k+1)*69621) (show (0:Int)<2147483647 from O0);show (i*48271+(k+1)*(k+1)*69621) % 2147483647 / 8<268435456;omega
theorem QR {i:Int} (h: -1000000000000≤i) (h':i≤1000000000000):Tre.Vv i=true:=by
 unfold Tre.Vv;rw [Ak h,Ak h'];rfl
theorem V1 {xs:List V} {i:Int} {p:V→Prop} (h:∀ x∈xs,p x) (h0:0≤i) (h1:i<(xs.length:Int)):∃ v,atI xs i=some v∧p v:=by
 have hk:i.toNat<xs.length:=⋯;have ek:i=((i.toNat:Nat):Int):=⋯;have q:atI xs ((i.toNat:Nat):Int)=some xs[i.toNat]:=qk (Aq hk);rw [← ek] at q;exact ⟨_,q,h _ (Dq hk)⟩
inductive spNumber (vs:List V) (H:Hp) (Q:VK) (E':XK):Prop
 | mk:∀ (m:Int),(vs=[.int m])→(0≤m)→(m<268435456)→(∀ (i:Int) (H':Hp),Tre.Vv i=true→qw H H'→Q (.int i) H')→spNumber vs H Q E'
theorem Ye (F:Fun K "_law_number" "_law_number" J0 f fd) (c:Cs K mg ad):FnOk P w K mg base CX0 1 f fd ["_law_more"] spNumber:=by
 refine F.ok Vb (fun vs H Q E h=>?_) (fun cdv A outer s H vs Q E hr h=>?_)
 ·obtain ⟨m,rfl,_⟩:=h;rfl
 obtain ⟨m,rfl,hm0,hm1,q⟩:=h;refine ⟨_,(qf (pst 1 Vb.nd (qu zu (qu zc (pv 0) (qu zb (qu Vu qh (qu Xt qh qh)) qh)) (qu Xt qh qh)))
   (qi (qy (pix K (zj (qb (qu zc (qu jq (pv 0) qh) qh) (qb (qu zu (qu zc (qu jq (pv 0) qh) qh) qh) (qb (pv 1) (qb (pix K (zj (qb (qu Xt qh qh) (qb (qu zu qh (qu Xt qh qh)) (qb qh qc)))) (qu zc (qu jq (pv 0) qh) qh)) qc))))) (qu zc (pv 0) qh))))),?_⟩
 have cp:qlf 10 12:=⟨O0,O0,O0⟩;have e12:(10:Int) ^ Int.toNat 12=1000000000000:=∅;refine ⟨_,rfl,_,_,rfl,rfl,cp,_,_,rfl,rfl,.inl ⟨O0,O0⟩,.inl ⟨_,_,rfl,rfl,_,_,rfl,rfl,(show (0:Int)<2*10 ^ Int.toNat 12+1 by rw [e12];decide),_,_,rfl,rfl,cp,_,_,rfl,rfl,?_⟩⟩
 have c8:qdf m 8:=⟨O0,O0⟩;refine ⟨_,rfl,_,_,rfl,rfl,c8,_,_,rfl,rfl,(show (0:Int)<10 from O0),_,rfl,_,_,rfl,rfl,c8,_,_,rfl,rfl,(show (0:Int)<2000 from O0),_,_,rfl,rfl,_,rfl,?_⟩;refine ⟨_,_,rfl,rfl,cp,_,_,rfl,rfl,cp,_,_,rfl,rfl,(O0:3≤sizeLine),fun p1 hp1=>?_⟩;rw [e12];have n1:Tre.Vv 1000000000000=true:=O0;have n2:Tre.Vv (0 - 1000000000000)=true:=O0;have n3:Tre.Vv 0=true:=O0;obtain ⟨v4,h4,i4,rfl,k4⟩:=V1 (xs:=[V.int 1000000000000,V.int (0 - 1000000000000),V.int 0]) (i:=m / 8 % 3) (p:=fun v=>∃ i,v= .int i∧Tre.Vv i=true) (by
  simp only [Ap,Bg,or_false];rintro x (rfl | rfl | rfl)
  ·exact ⟨_,rfl,n1⟩
  ·exact ⟨_,rfl,n2⟩
  ·exact ⟨_,rfl,n3⟩) (Bf _ O0) (A7 _ O0)
 refine ⟨_,rfl,_,_,rfl,rfl,c8,_,_,rfl,rfl,(show (0:Int)<3 from O0),ixL (SqL.of upd_same) h4 ⟨(O0:4≤sizeLine),fun p2 hp2=>?_⟩⟩;have a1:=Bf (m / 8) (show (10:Int)≠0 from O0);have a2:=A7 (m / 8) (show (0:Int)<10 from O0);have b1:=Bf (m / 8) (show (2000:Int)≠0 from O0);have b2:=A7 (m / 8) (show (0:Int)<2000 from O0);have d1:=Bf m (show (2*1000000000000+1:Int)≠0 from O0);have d2:=A7 m (show (0:Int)<2*1000000000000+1 from O0);obtain ⟨v,h,i,rfl,k⟩:=V1 (xs:=[V.int (m / 8 % 10),V.int (m / 8 % 2000 - 1000),V.int (m % (2*1000000000000+1) - 1000000000000),V.int i4]) (i:=m % 4) (p:=fun v=>∃ i,v= .int i∧Tre.Vv i=true) (by
  simp only [Ap,Bg,or_false];rintro x (rfl | rfl | rfl | rfl)
  ·exact ⟨_,rfl,QR ⋯ ⋯⟩
  ·exact ⟨_,rfl,QR ⋯ ⋯⟩
  ·exact ⟨_,rfl,QR ⋯ ⋯⟩
  ·exact ⟨_,rfl,k4⟩) (Bf _ O0) (A7 _ O0)
 exact ⟨_,rfl,_,_,rfl,rfl,(show (0:Int)<4 from O0),ixL (SqL.of upd_same) h (q i _ k ((qe hp1 _).trans (qe hp2 _)))⟩
end
end Mine
namespace Mine
open PySem L2 Nam
section
variable {P:Program} {w:World} {K:Frag} {mg:Str→Option Value} {base:Heap} {f:Addr} {fd:FuncData} {ad:Ad}
theorem qey {i:Int} (h0:0≤i) (h1:i<26):atI (Str.ofString "abcdefghijklmnopqrstuvwxyz").cps.toList i=some (97+i.toNat):=by
 have e:(Str.ofString "abcdefghijklmnopqrstuvwxyz").cps.toList=(List.range 26).map fun k=>97+k:=∅;have ek:i=((i.toNat:Nat):Int):=⋯;have hk:i.toNat<26:=⋯;rw [e];have q:atI ((List.range 26).map fun k=>97+k) ((i.toNat:Nat):Int)=some (97+i.toNat):=qk (by rw [A0,List.getElem?_range hk];rfl)
 rw [← ek] at q;exact q
def cw (m:Int) (k:Nat):Nat:=97+((m / 64+5*(k:Int)) % 26).toNat
def gw (m:Int) (k:Nat):Nat:=97+((m / 2048+7*(k:Int)) % 26).toNat
theorem qjq (m:Int) (k:Nat):low (cw m k)=true:=by
 have e0:=Bf (m / 64+5*(k:Int)) (show (26:Int)≠0 from O0);have e1:=A7 (m / 64+5*(k:Int)) (show (0:Int)<26 from O0);unfold low cw;rw [Ak ⋯,Ak ⋯];rfl
theorem qjm (m:Int) (k:Nat):low (gw m k)=true:=by
 have e0:=Bf (m / 2048+7*(k:Int)) (show (26:Int)≠0 from O0);have e1:=A7 (m / 2048+7*(k:Int)) (show (0:Int)<26 from O0);unfold low gw;rw [Ak ⋯,Ak ⋯];rfl
theorem qjn (m:Int) (a b:Nat) (ha:a<8) (hb:b<8) (h:gw m a=gw m b):a=b:=by
 unfold gw at h;omega
theorem yO (xs:List V) (n:Int) (k:Nat) (h:n=(k:Int)):v7 xs none (some n)=xs.take k:=by
 subst h;unfold v7;rw [HT.sIx_nat,HT.sIx_none,Nat.sub_zero,List.drop_zero,List.take_eq_take_iff];omega
structure Nms (l:List Str):Prop where
 len:l.length=8
 good:∀ x∈l,Tre.qY x=true
 nd:l.Nodup
inductive spNames (vs:List V) (H:Hp) (Q:VK) (E':XK):Prop
 | mk:∀ (m:Int),(vs=[.int m,.int 8])→(0≤m)→(m<2147483647)→(∀ (l:List Str) (p:Addr) (H':Hp),Nms l→qw H H'→H' p=some (.lst (l.map V.str))→Q (.ref p) H')→spNames vs H Q E'
inductive Iv_TreL_0 (c:Cs K mg ad) (m:Int) (H':Hp) (pw:Addr) (cs:List Nat) (pm:Addr) (j:Nat) (z:Nat) (i:Nat) (σ:St) (H2:Hp):Prop
 | mk:∀ (ws:List Nat) (o6:Option V),(σ=[some (.int m),some (.int 8),some (.str (Str.ofString "abcdefghijklmnopqrstuvwxyz")),some (.int (1+m % 8)),some (.ref pw),some (.ref pm),o6])→(qw H' H2)→(H2 pw=some (.lst (ws.map fun c=>V.str (one c))))→(H2 pm=some (.lst ((List.range i).map fun k=>V.str (wrd ((cs.set j (gw m k)).take z)))))→(ws.length=8)→(∀ x,ws.set j x=cs.set j x)→Iv_TreL_0 c m H' pw cs pm j z i σ H2
theorem Xx (F:Fun K "_law_names" "_law_names" jW f fd) (c:Cs K mg ad):FnOk P w K mg base CX0 1 f fd ["_law_cell","_law_many"] spNames:=by
 refine F.ok ji (fun vs H Q E h=>?_) (fun cdv A outer s H vs Q E hr h=>?_)
 ·obtain ⟨m,rfl,_⟩:=h;rfl
 obtain ⟨m,rfl,hm0,hm1,q⟩:=h;refine ⟨_,(qf (pst 2 ji.nd qp)
   (qf (pst 3 ji.nd (qu zb qh (qu zc (pv 0) qh)))
   (qf (pst 4 ji.nd (jk (sc:=qj jW) (NX:=["_law_cell","_law_many","_law_letters","_law_size","_law_word","_law_made","_law_k"]) (N:=["_law_k","_law_letters","_law_cell"]) (js:=[none,some 2,some 0]) (jj rfl c.range_ (qb qh qc)) (fun _ _ _ _ _=>(zn (i:=0) (show (["_law_k","_law_letters","_law_cell"]:List Str).Nodup from ∅) rfl (Or.inl rfl))) (fun _ _ _ _ _=>jE) (fun _ _ _ _ _=>(pix K (pv 1) (qu zc (qu zb (qu jq (pv 2) qh) (qu Vu qh (pv 0))) qh))) (zF rfl) ⟨∅,rfl,∅,∅,rfl,∅⟩))
   (qf (qN (qt zy (qu zc (qu jq (pv 0) qh) qh) qh (qD _)) (qi (qy (jk (sc:=qj jW) (NX:=["_law_cell","_law_many","_law_letters","_law_size","_law_word","_law_made","_law_k"]) (N:=["_law_k","_law_word"]) (js:=[none,some 4]) (jj rfl c.range_ (qb (pv 1) qc)) (fun _ _ _ _ _=>(zn (i:=0) (show (["_law_k","_law_word"]:List Str).Nodup from ∅) rfl (Or.inl rfl))) (fun _ _ _ _ _=>jE) (fun _ _ _ _ _=>(JN (K:=K) rfl PySem.F.plainAttrs_str PySem.F.slot_str_join PySem.F.type_str_join (qez (K:=K) rfl) qp (qb (jY (Zr (K:=K) rfl) (pv 1) J5 (Jg (qu zb (pv 0) qh))) qc))) (zF rfl) ⟨∅,rfl,∅,∅,rfl,∅⟩))) qB)
   (qf (pst 5 ji.nd (zj qc))
   (qf (jf Bt rfl (jj rfl c.range_ (qb (pv 1) qc)) (pgn 6 ji.nd) (qf (qip (pix K (pv 2) (qu zc (qu zb (qu jq (pv 0) qh) (qu Vu qh (pv 6))) qh)) (qit (pv 4) (qu zc (qu jq (pv 0) qh) (pv 3)) qea))
   (qi (za (JN (K:=K) rfl A5 B0 Bz zX (pv 5) (qb (JN (K:=K) rfl PySem.F.plainAttrs_str PySem.F.slot_str_join PySem.F.type_str_join (qez (K:=K) rfl) qp (qb (jY (Zr (K:=K) rfl) (pv 4) J5 (Jg (pv 3))) qc)) qc))))))
   (qi (qy (pv 5))))))))),?_⟩
 refine ⟨_,rfl,_,_,rfl,rfl,(show (0:Int)<8 from O0),.inl ⟨_,_,rfl,rfl,?_⟩⟩;have lone:∀ (l:List Nat),l.map (fun c=>V.str (one c))=(l.map one).map V.str:=fun l=>by rw [Bu];rfl
 refine ⟨_,rfl,O0,O0,zG 8 (fun i ys H'=>H'=H∧ys=(((List.range i).map (cw m)).map fun c=>V.str (one c))) ⟨rfl,rfl⟩ (fun i ys H' h=>?_) O0 (fun i ys H' hi h=>?_) (fun ys H' h=>?_)⟩
 ·rw [h.2,Ab,Ab,E3];exact Ah _
 ·obtain ⟨rfl,rfl⟩:=h;refine ⟨hi,fun v H2 yl=>?_⟩;obtain ⟨rfl,rfl⟩:=yl;have e0:=Bf (m / 64+5*(0+(i:Int))) (show (26:Int)≠0 from O0);have e1:=A7 (m / 64+5*(0+(i:Int))) (show (0:Int)<26 from O0);refine ⟨_,rfl,_,rfl,_,_,rfl,rfl,⟨O0,O0⟩,_,rfl,_,_,rfl,rfl,.inl ⟨O0,O0⟩,.inl ⟨_,_,rfl,rfl,_,_,rfl,rfl,(show (0:Int)<26 from O0),.inr (.inr ⟨_,_,_,rfl,rfl,∅,qey e0 e1,rfl,?_⟩)⟩⟩;rw [List.range_succ,An,An];have e2:cw m i=97+((m / 64+5*(0+(i:Int))) % 26).toNat:=by unfold cw;rw [E9]
  simp only [Ba,Em,e2];rfl
 ·obtain ⟨rfl,rfl⟩:=h;refine ⟨Ah _,fun pw hpw=>?_⟩;have g0:=qe hpw (.lst ((((List.range 8).map (cw m)).map fun c=>V.str (one c))));have hw0:upd H' pw (.lst ((((List.range 8).map (cw m)).map fun c=>V.str (one c)))) pw=some (.lst ((((List.range 8).map (cw m)).map fun c=>V.str (one c)))):=upd_same;generalize upd H' pw (.lst ((((List.range 8).map (cw m)).map fun c=>V.str (one c))))=H1 at g0 hw0 ⊢;have hcl:((List.range 8).map (cw m)).length=8:=by rw [Ab,E3]
  have hlow:((List.range 8).map (cw m)).all low=true:=by
   rw [Dx];exact A3.mpr fun k _=>qjq m k
  generalize (List.range 8).map (cw m)=cs at hw0 hcl hlow ⊢;have z0:=Bf m (show (8:Int)≠0 from O0);have z1:=A7 m (show (0:Int)<8 from O0);refine ⟨_,rfl,_,_,rfl,rfl,⟨O0,O0⟩,_,_,rfl,rfl,(show (0:Int)<4 from O0),rfl,_,rfl,?_⟩;refine v1 (fun _=>?_) (fun _=>?_)
  ·refine ⟨_,rfl,8,rfl,O0,O0,zG 8 (fun i ys H'=>qw H1 H'∧ys=((List.range i).map fun k=>V.str (wrd (cs.take (k+1))))) ⟨qw.refl _,rfl⟩ (fun i ys H' h=>?_) O0 (fun i ys H2 hi h=>?_) (fun ys H2 h=>?_)⟩
   ·rw [h.2,Ab,E3];exact Ah _
   ·obtain ⟨g2,rfl⟩:=h;refine ⟨hi,fun v H3 yl=>?_⟩;obtain ⟨rfl,rfl⟩:=yl;refine ⟨rfl,_,rfl,_,rfl,.inl ⟨_,_,rfl,rfl,_,rfl,.inl ⟨pw,_,rfl,SqL.of (g2 _ _ hw0),fun p hp=>⟨_,p,(cs.take (i+1)).map one,rfl,rfl,SqL.of ?_,?_,g2.trans (qe hp _),?_⟩⟩⟩⟩
    ·rw [upd_same,yO _ _ (i+1) ⋯,← lone,E6]
    ·rw [ZF];have:=Bv (i+1) cs;have e:(Str.ofString "").length=0:=∅;rw [e,Nat.mul_zero];omega
    ·rw [ZU,List.range_succ,An];rfl
   ·obtain ⟨g2,rfl⟩:=h;refine ⟨Ah _,fun D hD=>q ((List.range 8).map fun k=>wrd (cs.take (k+1))) D _ ⟨by simp,fun x hx=>?_,qjy cs hcl⟩ ((g0.trans g2).trans (qe hD _)) (by rw [upd_same,Bu];rfl)⟩
    obtain ⟨k,hk,rfl⟩:=By.mp hx;have hk':=Dg.mp hk;refine ZQ (by rw [Cr];omega) (by rw [Cr];omega) (A3.mpr fun c hc=>A3.mp hlow c (Ct hc))
  ·refine ⟨(O0:0≤sizeLine),fun pm hpm=>?_⟩;have gm:=qe hpm (.lst []);have nwm:pw≠pm:=qx hw0 hpm;have hpw0:H' pw=none:=hpw;refine ⟨_,rfl,8,rfl,O0,O0,?_⟩;have j0:=Bf (m / 8) (show (1+m % 8:Int)≠0 from ⋯);have j1:=A7 (m / 8) (show (0:Int)<1+m % 8 from ⋯);generalize hj:(m / 8 % (1+m % 8)).toNat=j;generalize hz:(1+m % 8).toNat=z;have hjz:j<z:=⋯;have hz8:z≤8:=⋯;refine Q0 8 (Iv_TreL_0 c m H' pw cs pm j z) ?_ (fun i σ H2 hi h=>?_) (fun σ H2 h=>?_)
   ·exact ⟨cs,none,rfl,g0.trans gm,gm _ _ hw0,upd_same,hcl,fun _=>rfl⟩
   ·obtain ⟨ws,o6,rfl,g2,hw2,hm2,hwl,hws⟩:=h;refine ⟨hi,fun v H3 yl=>?_⟩;obtain ⟨rfl,rfl⟩:=yl;have e0:=Bf (m / 2048+7*(0+(i:Int))) (show (26:Int)≠0 from O0);have e1:=A7 (m / 2048+7*(0+(i:Int))) (show (0:Int)<26 from O0);have eg:gw m i=97+((m / 2048+7*(0+(i:Int))) % 26).toNat:=by unfold gw;rw [E9]
    have hix:ixN (ws.map fun c=>V.str (one c)).length (m / 8 % (1+m % 8))=some j:=by
     unfold ixN;rw [Ab,hwl,if_pos j0,if_pos ⋯,hj]
    refine ⟨_,rfl,_,rfl,_,_,rfl,rfl,⟨O0,O0⟩,_,rfl,_,_,rfl,rfl,.inl ⟨O0,O0⟩,.inl ⟨_,_,rfl,rfl,_,_,rfl,rfl,(show (0:Int)<26 from O0),.inr (.inr ⟨_,_,_,rfl,rfl,∅,qey e0 e1,?_⟩)⟩⟩;refine ⟨_,rfl,_,rfl,_,_,rfl,rfl,⟨O0,O0⟩,_,rfl,_,_,rfl,rfl,(show (0:Int)<1+m % 8 from ⋯),pw,_,_,j,rfl,rfl,hw2,hix,?_⟩;rw [← eg];have es:(ws.map fun c=>V.str (one c)).set j (.str (one (gw m i)))=(cs.set j (gw m i)).map fun c=>V.str (one c):=by rw [← hws,List.map_set]
    refine ⟨_,rfl,.inl ⟨rfl,_,SqL.of (by rw [qm (Ne.symm nwm)];exact hm2)⟩,v8 ⟨rfl,_,rfl,_,rfl,_,rfl,.inl ⟨pw,(cs.set j (gw m i)).map (fun c=>V.str (one c)),rfl,SqL.of ?_,fun p hp=>?_⟩⟩⟩
    ·rw [upd_same];exact congrArg (fun l=>some (HO.lst l)) es
    ·have gw2:=qL g2 hpw (.lst ((ws.map fun c=>V.str (one c)).set j (.str ⟨#[gw m i]⟩)));have hw3:upd H3 pw (.lst ((ws.map fun c=>V.str (one c)).set j (.str ⟨#[gw m i]⟩))) pw=some (.lst ((cs.set j (gw m i)).map fun c=>V.str (one c))):=by rw [upd_same];exact congrArg (fun l=>some (HO.lst l)) es
     have hm3:upd H3 pw (.lst ((ws.map fun c=>V.str (one c)).set j (.str ⟨#[gw m i]⟩))) pm=some (.lst ((List.range i).map fun k=>V.str (wrd ((cs.set j (gw m k)).take z)))):=by rw [qm (Ne.symm nwm)];exact hm2
     change upd H3 pw (.lst ((ws.map fun c=>V.str (one c)).set j (.str ⟨#[gw m i]⟩))) p=none at hp
     generalize upd H3 pw (.lst ((ws.map fun c=>V.str (one c)).set j (.str ⟨#[gw m i]⟩)))=H4 at hp gw2 hw3 hm3 ⊢;have gp:=qe hp (.lst (v7 ((cs.set j (gw m i)).map fun c=>V.str (one c)) none (some (1+m % 8))));refine ⟨_,p,((cs.set j (gw m i)).take z).map one,rfl,rfl,SqL.of ?_,?_,pm,_,_,rfl,rfl,gp _ _ hm3,?_,?_⟩
     ·rw [upd_same,yO _ _ z ⋯,← lone,E6]
     ·rw [ZF];have:=Bv z (cs.set j (gw m i));have e:(Str.ofString "").length=0:=∅;rw [e,Nat.mul_zero];omega
     ·rw [Ab,E3];exact Nat.lt_trans hi O0
     ·refine ⟨cs.set j (gw m i),_,rfl,qL (gw2.trans gp) (g0.free hpm) _,?_,?_,by rw [Dy];exact hcl,fun x=>by rw [List.set_set]⟩
      ·rw [qm nwm];exact gp _ _ hw3
      ·rw [upd_same,ZU,List.range_succ,An];rfl
   ·obtain ⟨ws,o6,rfl,g2,hw2,hm2,hwl,hws⟩:=h;refine ⟨Ah _,_,rfl,q ((List.range 8).map fun k=>wrd ((cs.set j (gw m k)).take z)) pm _ ⟨by simp,fun x hx=>?_,qlc cs j z (gw m) hjz ⋯ fun a b ha hb h=>qjn m a b ha hb h⟩ g2 (by rw [hm2,Bu];rfl)⟩
    obtain ⟨k,hk,rfl⟩:=By.mp hx;refine ZQ (by rw [Cr,Dy];omega) (by rw [Cr,Dy];omega) (A3.mpr fun c hc=>?_)
    rcases List.mem_or_eq_of_mem_set (Ct hc) with hc | rfl
    ·exact A3.mp hlow c hc
    ·exact qjm m k
end
end Mine
namespace Mine
open PySem L2
section
variable {P:Program} {w:World} {K:Frag} {mg:Str→Option Value} {base:Heap} {f:Addr} {fd:FuncData} {ad:Ad}
inductive spNeed (K:Frag) (ad:Ad) (vs:List V) (H:Hp) (Q:VK) (E:XK):Prop
 | mk:∀ x d,(vs=[x])→(Rep K H x d)→(Tre.fit d=true)→((Tre.zY d=true→∀ H',qw H H'→Q .non H'))→((Tre.zY d=false→∀ H',qw H H'→E (.ref ad.BadTree) none H'))→spNeed K ad vs H Q E
theorem Wq (F:Fun K "need_program" "need_program" Jn f fd) (c:Cs K mg ad) (d_is_program:Def P w K mg base 5 "is_program" ["thing"] (spD K Tre.zY)):FnOk P w K mg base (CX1 P w) 6 f fd ["thing"] (spNeed K ad):=by
 refine F.ok1 Wn (fun vs H Q E h=>?_) (fun cdv A outer s H vs Q E hr h=>?_)
 ·obtain ⟨x,d,rfl,_⟩:=h;rfl
 obtain ⟨x,d,rfl,hk,ft,q1,q2⟩:=h;refine ⟨_,(qi (qN (jM (zZ (pdf d_is_program (qb (pv 0) qc)))) (qi (qei qgd c.o_BadTree c.m_BadTree (qb qp qc))) qB)),?_⟩;refine ⟨_,rfl,_,_,rfl,hk,ft,fun H1 g=>⟨_,rfl,?_⟩⟩
 by_cases h:Tre.zY d=true
 ·exact qR (show (!Tre.zY d)=false by rw [h];rfl) (q1 h H1 g)
 ·have h':=Bo.mpr h;exact qZ (show (!Tre.zY d)=true by rw [h'];rfl) ⟨(O0:1≤sizeLine),q2 h' H1 g⟩
end
end Mine
namespace Tre
open PySem
mutual
def inL (L:List Str):PyData→Bool
 | .str x=>L.contains x
 | .tuple xs=>zT L xs
 | .list _=>false
 | .dict _=>false
 | _=>true
def zT (L:List Str):List PyData→Bool
 | []=>true
 | x::r=>inL L x&&zT L r
end
def vh:List Str:=["number","name","two","fun","loop","call","step","main","let","set","do","if","while","hand","back","fault","try","great","kind","any","unset","anya","+","-","*","<","="]
structure Ft (names:List Str) (d:PyData):Prop where
 fit:Tre.fit d=true
 ins:inL (vh++names) d=true
structure Fts (names:List Str) (ds:List PyData):Prop where
 fit:Tre.j8 ds=true
 ins:zT (vh++names) ds=true
section
variable {names:List Str}
theorem Fts.nil:Fts names []:=⟨rfl,rfl⟩
theorem Fts.cons {d:PyData} {r:List PyData} (h:Ft names d) (hr:Fts names r):Fts names (d::r):=⟨by rw [j8,h.fit,hr.fit];rfl,by rw [zT,h.ins,hr.ins];rfl⟩
theorem Fts.snoc:∀ {xs:List PyData} {x:PyData},Fts names xs→Ft names x→Fts names (xs++[x])
 | [],x,_,h=> .cons h .nil
 | y::r,x,h,h'=>by
  have a:=h.fit;have b:=h.ins;rw [j8,Ae] at a;rw [zT,Ae] at b;exact .cons ⟨a.1,b.1⟩ (Fts.snoc ⟨a.2,b.2⟩ h')
theorem Fts.tup {l:List PyData} (h:Fts names l):Ft names (.tuple l):=⟨by rw [Tre.fit];exact h.fit,by rw [inL];exact h.ins⟩
theorem Fts.of:∀ {xs:List PyData},(∀ x∈xs,Ft names x)→Fts names xs
 | [],_=> .nil
 | y::r,h=> .cons (h y Au) (Fts.of fun x hx=>h x (Am _ hx))
theorem Ft.int (i:Int):Ft names (.int i):=⟨rfl,rfl⟩
theorem Ft.word {x:Str} (h:(vh.contains x&&decide (x.length≤1000000))=true):Ft names (.str x):=by
 rw [Ae] at h;refine ⟨h.2,?_⟩;rw [inL,Co];exact B7 _ (Co.mp h.1)
theorem Ft.name {x:Str} (h:qY x=true) (hx:x∈vh++names):Ft names (.str x):=by
 unfold qY at h;rw [Ae,Ae] at h;have:=Ay h.1.2;refine ⟨Ak ⋯,?_⟩;rw [inL,Co];exact hx
end
end Tre
namespace Mine
open PySem L2
structure DIn (K:Frag) (H:Hp) (st a nm:Addr) (ns:List Int) (names:List Str) (k l:Int):Prop where
 dict:H st=some (.dK (stK a k l nm))
 cells:SqL K H a (ns.map V.int)
 nms:SqL K H nm (names.map V.str)
 good:Nms names
section
variable {P:Program} {w:World} {K:Frag} {mg:Str→Option Value} {base:Heap} {f:Addr} {fd:FuncData} {ad:Ad}
theorem DIn.same {H H':Hp} {st a nm:Addr} {ns:List Int} {names:List Str} {k l:Int} (h:DIn K H st a nm ns names k l) (g:qw H H'):DIn K H' st a nm ns names k l:=⟨g _ _ h.dict,g.seq h.cells,g.seq h.nms,h.good⟩
theorem DIn.put {H:Hp} {st a nm:Addr} {ns:List Int} {names:List Str} {k l k' l':Int} (h:DIn K H st a nm ns names k l):DIn K (upd H st (.dK (stK a k' l' nm))) st a nm ns names k' l':=⟨upd_same,(Stay.put h.dict).sqL h.cells,(Stay.put h.dict).sqL h.nms,h.good⟩
inductive spStm (K:Frag) (n:Nat) (vs:List V) (H:Hp) (Q:VK) (E':XK):Prop
 | mk:∀ st a nm ns names k l deep may,(vs=[.ref st,.int deep,.bl may])→(DIn K H st a nm ns names k l)→(Bud.PS n deep k l)→(∀ H' x d (s t:Nat) k' l',Stay st H H'→DIn K H' st a nm ns names k' l'→Rep K H' x d→Tre.Ft names d→Tre.Pt d "statement" may s t→Bud.BS n k l s t k' l'→Q x H')→spStm K n vs H Q E'
inductive spTrm (K:Frag) (n:Nat) (vs:List V) (H:Hp) (Q:VK) (E':XK):Prop
 | mk:∀ st a nm ns names k l deep,(vs=[.ref st,.int deep])→(DIn K H st a nm ns names k l)→(Bud.PT n deep k l)→(∀ H' x d (s t:Nat) k' l',Stay st H H'→DIn K H' st a nm ns names k' l'→Rep K H' x d→Tre.Ft names d→(∀ hands,Tre.Pt d "term" hands s t)→Bud.BT n deep k l s t k' l'→Q x H')→spTrm K n vs H Q E'
inductive spBdy (K:Frag) (n:Nat) (vs:List V) (H:Hp) (Q:VK) (E':XK):Prop
 | mk:∀ st a nm ns names k l deep may,(vs=[.ref st,.int deep,.bl may])→(DIn K H st a nm ns names k l)→(Bud.PB n deep k l)→(∀ H' x ds (s t:Nat) k' l',Stay st H H'→DIn K H' st a nm ns names k' l'→Rep K H' x (.tuple ds)→Tre.Fts names ds→Tre.Bd ds may s t→Bud.BB n k l s t k' l'→Q x H')→spBdy K n vs H Q E'
section
variable {n i j v:Nat} {σ:St} {H:Hp} {Q:VK} {st a nm:Addr} {ns:List Int} {names:List Str} {k l deep:Int} {may:Bool}
theorem jH (hi:σ[i]?=some (some (.ref st))) (hj:σ[j]?=some (some (.int deep))) (di:DIn K H st a nm ns names k l) (p:Bud.PT n (deep - 1) k l) (h:∀ H' x d (s t:Nat) k' l',Stay st H H'→DIn K H' st a nm ns names k' l'→Rep K H' x d→Tre.Ft names d→(∀ hands,Tre.Pt d "term" hands s t)→Bud.BT n (deep - 1) k l s t k' l'→Q x H'):
  qE (spTrm K n) [] E0 (qd (qg i) (qd (tOp (rI0 fun i j=>V.int (i - j)) (qg j) (tC (V.int 1))) qo)) σ H Q:=⟨_,hi,_,hj,_,_,rfl,rfl,st,a,nm,ns,names,k,l,_,rfl,di,p,h⟩
theorem qh4 (di:DIn K H st a nm ns names k l) (p:Bud.PB n deep k l) (h:∀ H' x ds (s t:Nat) k' l',Stay st H H'→DIn K H' st a nm ns names k' l'→Rep K H' x (.tuple ds)→Tre.Fts names ds→Tre.Bd ds may s t→Bud.BB n k l s t k' l'→Q x H'):spBdy K n [.ref st,.int deep,.bl may] H Q E0:=⟨st,a,nm,ns,names,k,l,_,may,rfl,di,p,h⟩
theorem WS (hi:σ[i]?=some (some (.ref st))) (hj:σ[j]?=some (some (.int deep))) (hv:σ[v]?=some (some (.bl may))) (di:DIn K H st a nm ns names k l) (p:Bud.PB n (deep - 1) k l) (h:∀ H' x ds (s t:Nat) k' l',Stay st H H'→DIn K H' st a nm ns names k' l'→Rep K H' x (.tuple ds)→Tre.Fts names ds→Tre.Bd ds may s t→Bud.BB n k l s t k' l'→Q x H'):
  qE (spBdy K n) [] E0 (qd (qg i) (qd (tOp (rI0 fun i j=>V.int (i - j)) (qg j) (tC (V.int 1))) (qd (qg v) qo))) σ H Q:=⟨_,hi,_,hj,_,_,rfl,rfl,_,hv,qh4 di p h⟩
theorem qh3 (di:DIn K H st a nm ns names k l) (p:Bud.PS n deep k l) (h:∀ H' x d (s t:Nat) k' l',Stay st H H'→DIn K H' st a nm ns names k' l'→Rep K H' x d→Tre.Ft names d→Tre.Pt d "statement" may s t→Bud.BS n k l s t k' l'→Q x H'):spStm K n [.ref st,.int deep,.bl may] H Q E0:=⟨st,a,nm,ns,names,k,l,_,may,rfl,di,p,h⟩
end
inductive Iv_TreN_0 (K:W.Frag) (n:Nat) (H:Hp) (st:Addr) (a:Addr) (nm:Addr) (ns:List Int) (names:List Str) (k:Int) (l:Int) (may:Bool) (i:Nat) (ys:List V) (H':Hp):Prop
 | mk:∀ (ds:List PyData) (k' l':Int) (s t:Nat),(Stay st H H')→(DIn K H' st a nm ns names k' l')→(Reps K H' ys ds)→(ds.length=i)→(Tre.Fts names ds)→(Tre.Ptl (ds.map fun x=>(x,("statement":Str))) may s t)→(Bud.BI n k l i s t k' l')→Iv_TreN_0 K n H st a nm ns names k l may i ys H'
theorem Wd (F:Fun K "_law_body" "_law_body" Jp f fd) (c:Cs K mg ad) (n:Nat) (d_law_next:Def P w K mg base 2 "_law_next" ["_law_state"] (spNext K)) (d_law_statement:Def P w K mg base (4*n+5) "_law_statement" ["_law_state","_law_deep","_law_may_hand"] (spStm K n)):FnOk P w K mg base CX0 (4*n+6) f fd ["_law_state","_law_deep","_law_may_hand"] (spBdy K n):=by
 refine F.ok (k:=4*n+5) Zw (fun vs H Q E h=>?_) (fun cdv A outer s H vs Q E hr h=>?_)
 ·obtain ⟨st,a,nm,ns,names,k,l,deep,may,rfl,_⟩:=h;rfl
 obtain ⟨st,a,nm,ns,names,k,l,deep,may,rfl,di,pp,q⟩:=h;refine ⟨_,(qi (qy (zk (Jw (K:=K) rfl) (by rfl) c.tuple_ zH (qb (jk (sc:=qj Jp) (NX:=["_law_state","_law_deep","_law_may_hand"]) (N:=["_law_turn","_law_state","_law_deep","_law_may_hand"]) (js:=[none,some 0,some 1,some 2]) (jj rfl c.range_ (qb (qu zc (pdf d_law_next (qb (pv 0) qc)) qh) qc)) (fun _ _ _ _ _=>(zn (i:=0) (show (["_law_turn","_law_state","_law_deep","_law_may_hand"]:List Str).Nodup from ∅) rfl (Or.inl rfl))) (fun _ _ _ _ _=>jE) (fun _ _ _ _ _=>(pdf d_law_statement (qb (pv 1) (qb (pv 2) (qb (pv 3) qc))))) (zF rfl) ⟨∅,rfl,∅,∅,rfl,∅⟩) qc)))),?_⟩
 refine ⟨_,rfl,st,a,nm,ns,k,l,rfl,di.dict,di.cells,pp.2.1,(by have:=pp.2.2;omega),fun z H1 hz0 hz1 e1=>?_⟩
 have z0:=Bf z (show (4:Int)≠0 from O0);have z1:=A7 z (show (0:Int)<4 from O0);have di1:DIn K H1 st a nm ns names (k+1) l:=e1▸di.put;have st1:Stay st H H1:=e1▸Stay.put di.dict;refine ⟨_,_,rfl,rfl,(show (0:Int)<4 from O0),_,rfl,⋯,⋯,?_⟩;generalize hc:(z % 4).toNat=cnt;have hc3:cnt≤3:=⋯;refine zG cnt (Iv_TreN_0 K n H st a nm ns names k l may) ?_ (fun i ys H' h=>?_) (Av hc3 O0) (fun i ys H' hi h=>?_) (fun ys H' h=>?_)
 ·exact ⟨[],k+1,l,0,0,st1,di1,.nil,rfl,.nil,.nil,.nil⟩
 ·obtain ⟨ds,k',l',s,t,_,_,rs,hl,_⟩:=h;have:=rs.length;omega
 ·obtain ⟨ds,k',l',s,t,sy,di2,rs,hl,hf,pt,b⟩:=h;refine ⟨hi,fun v H3 yl=>?_⟩;obtain ⟨rfl,rfl⟩:=yl;refine ⟨_,rfl,_,rfl,_,rfl,qh3 di2 (b.pre pp ⋯) fun H4 x d s2 t2 k2 l2 sy4 di4 rx fx px b2=>?_⟩;refine ⟨ds++[d],k2,l2,s+s2,max t t2,sy.trans sy4,di4,(rs.stay sy4).append (.cons rx .nil),by rw [Ac,hl];rfl,hf.snoc fx,?_,b.snoc b2⟩
  rw [An];exact pt.append (Tre.jG px)
 ·obtain ⟨ds,k',l',s,t,sy,di2,rs,hl,hf,pt,b⟩:=h;refine ⟨Ah _,fun D hD=>?_⟩;refine ⟨D,ys,rfl,.inl ⟨SqL.of upd_same,fun p hp=>?_⟩⟩;have g:=(qe hD (.lst ys)).trans (qe hp (.tup ys));exact q _ _ ds s t k' l' (sy.then g) (di2.same g) (.tup (SqT.of upd_same) (rs.same g)) hf ⟨⋯,pt⟩ (b.out hc3)
theorem qc0 {names:List Str} (g:Nms names) {lo hi:Int} (h0:0≤lo) (h1:lo≤hi∧hi≤lo+3):∃ cut:List Str,v7 (names.map V.str) (some lo) (some hi)=cut.map V.str∧Tre.areNames (.tuple (cut.map PyData.str))=true∧∀ x∈cut,Tre.qY x=true∧x∈names:=by
 obtain ⟨i,rfl⟩:∃ i:Nat,lo=(i:Int):=⟨lo.toNat,⋯⟩;obtain ⟨j,rfl⟩:∃ j:Nat,hi=(j:Int):=⟨hi.toNat,⋯⟩;refine ⟨(names.drop (min i names.length)).take (min j names.length - min i names.length),?_,?_,fun x hx=>⟨g.good x (List.mem_of_mem_drop (Ct hx)),List.mem_of_mem_drop (Ct hx)⟩⟩
 ·unfold v7;rw [HT.sIx_nat,HT.sIx_nat,Ab,E6,List.map_drop]
 ·have hl:((names.drop (min i names.length)).take (min j names.length - min i names.length)).length≤4:=by
   have:=Bv (min j names.length - min i names.length) (names.drop (min i names.length));omega
  have hsub:∀ x∈(names.drop (min i names.length)).take (min j names.length - min i names.length),Tre.qY x=true:=fun x hx=>g.good x (List.mem_of_mem_drop (Ct hx));have hnd:((names.drop (min i names.length)).take (min j names.length - min i names.length)).Nodup:=(List.Pairwise.drop g.nd).take;generalize (names.drop (min i names.length)).take (min j names.length - min i names.length)=cut at hl hsub hnd;simp only [Tre.areNames];rw [Ab,Ak hl,Cm,Bu,Ae];refine ⟨?_,Ak ?_⟩
  ·rw [Dx];exact A3.mpr fun x hx=>hsub x hx
  ·have e:(Tre.txt ∘ PyData.str)=id:=rfl;rw [e,Eu];exact hnd
theorem qg1 {kd:Int} (h:¬ (kd=1∨kd=8∨kd=9)):inV (.int kd) [.int 1,.int 8,.int 9]=false:=by
 have e:∀ a:Int,¬ kd=a→eqV (.int a) (.int kd)=false:=fun a n=>Bc.mpr fun z=>n z.symm;have n1:¬ kd=1:=fun z=>h (.inl z);have n8:¬ kd=8:=fun z=>h (.inr (.inl z));have n9:¬ kd=9:=fun z=>h (.inr (.inr z));show (eqV (.int 1) (.int kd)||(eqV (.int 8) (.int kd)||(eqV (.int 9) (.int kd)||false)))=false;rw [e 1 n1,e 8 n8,e 9 n9];rfl
theorem qf4 {i:Int} (h0:0≤i) (h1:i<5):∃ c,atI (Str.ofString "+-*<=").cps.toList i=some c∧(Tre.VR.any fun y=>y==(⟨#[c]⟩:Str))=true∧(Tre.vh.contains (⟨#[c]⟩:Str)&&decide ((⟨#[c]⟩:Str).length≤1000000))=true:=by
 have e:(Str.ofString "+-*<=").cps.toList=[43,45,42,60,61]:=∅;rw [e];have h:i=0∨i=1∨i=2∨i=3∨i=4:=⋯;rcases h with rfl | rfl | rfl | rfl | rfl
 ·exact ⟨43,rfl,∅,∅⟩
 ·exact ⟨45,rfl,∅,∅⟩
 ·exact ⟨42,rfl,∅,∅⟩
 ·exact ⟨60,rfl,∅,∅⟩
 ·exact ⟨61,rfl,∅,∅⟩
theorem qe2 {i:Nat} {m kd:Int} {A B:TS} {D:Ends} {σ:St} {H:Hp} (h:σ[i]?=some (some (.int kd))) (hA:kd=m→A D σ H) (hB:¬ kd=m→B D σ H):zz (qI (tOp rEq (qg i) (tC (V.int m)))) A B D σ H:=by
 refine ⟨_,h,rfl,_,rfl,?_⟩
 by_cases e:kd=m
 ·exact qZ (show decide _=true from Ak (congrArg V.int e)) (hA e)
 ·exact qR (show decide _=false from As fun z=>e (V.int.inj z)) (hB e)
theorem qg8 {i:Nat} {m kd:Int} {A B:TS} {D:Ends} {σ:St} {H:Hp} (h:σ[i]?=some (some (.int kd))) (hA:kd<m→A D σ H) (hB:¬ kd<m→B D σ H):zz (qI (tOp (rI0 fun i j=>V.bl (decide (i<j))) (qg i) (tC (V.int m)))) A B D σ H:=by
 refine ⟨_,h,_,_,rfl,rfl,_,rfl,?_⟩
 by_cases e:kd<m
 ·exact qZ (show decide _=true from Ak e) (hA e)
 ·exact qR (show decide _=false from As e) (hB e)
def qb0 (T:Sp):TS:=jb (jl (qd (tC (V.str "step")) (qd (qE T [] E0 (qd (qg 0) (qd (tOp (rI0 fun i j=>V.int (i - j)) (qg 1) (tC (V.int 1))) qo))) (qd (qE T [] E0 (qd (qg 0) (qd (tOp (rI0 fun i j=>V.int (i - j)) (qg 1) (tC (V.int 1))) qo))) qo))))
def qbz (K:Frag) (T:Sp):TS:=qG (zz (qI (tOp rEq (qg 3) (tC (V.int 6)))) (qG (qX (qE T [] E0 (qd (qg 0) (qd (tOp (rI0 fun i j=>V.int (i - j)) (qg 1) (tC (V.int 1))) qo))) (qv 7)) (jb (jl (qd (tC (V.str "call")) (qd (qg 7) (qd (tCB (fun xs H Q=>∃ p ys,xs=[V.ref p]∧((SqL K H p ys∧∀ (l:Addr),H l=none→Q (V.ref l) (upd H l (HO.tup ys)))∨SqT K H p ys∧Q (V.ref p) H)) (qd (vm (Z0 (qd (tOp (rI (fun x j=>0<j) fun i j=>V.int (i % j)) (qg 4) (tC (V.int 5))) qo)) [none,some 0,some 1] (qv 0) Zl (qE T [] E0 (qd (qg 1) (qd (tOp (rI0 fun i j=>V.int (i - j)) (qg 2) (tC (V.int 1))) qo)))) qo)) qo)))))) zg) (qb0 T)
def qby (K:Frag) (T:Sp) (B:Sp):TS:=qG (zz (qI (tOp (rI0 fun i j=>V.bl (decide (i<j))) (qg 3) (tC (V.int 6)))) (qG (qX (tCB (fun xs H Q=>∃ p ys,xs=[V.ref p]∧((SqL K H p ys∧∀ (l:Addr),H l=none→Q (V.ref l) (upd H l (HO.tup ys)))∨SqT K H p ys∧Q (V.ref p) H)) (qd (tSl (QI K) (qg 5) (W0 (tOp (rI (fun x j=>0<j) fun i j=>V.int (i % j)) (qg 4) (tC (V.int 5)))) (W0 (tOp zW (tOp (rI (fun x j=>0<j) fun i j=>V.int (i % j)) (qg 4) (tC (V.int 5))) (tOp (rI (fun x j=>0<j) fun i j=>V.int (i % j)) (tOp (rI qdf fun i j=>V.int (i / j)) (qg 4) (tC (V.int 5))) (tC (V.int 4)))))) qo)) (qv 6)) (jb (jl (qd (tOp (rIx K) (Jv (qd (tC (V.str "fun")) (qd (tC (V.str "loop")) qo))) (tOp (rI0 fun i j=>V.int (i - j)) (qg 3) (tC (V.int 4)))) (qd (qg 6) (qd (qE B [] E0 (qd (qg 0) (qd (tOp (rI0 fun i j=>V.int (i - j)) (qg 1) (tC (V.int 1))) (qd (tOp rEq (qg 3) (tC (V.int 5))) qo)))) qo)))))) zg) (qbz K T)
def qbx (K:Frag) (T:Sp) (B:Sp):TS:=qG (zz (qI (tOp (rI0 fun i j=>V.bl (decide (i<j))) (qg 3) (tC (V.int 4)))) (jb (jl (qd (tC (V.str "two")) (qd (tOp (rIx K) (tC (V.str "+-*<=")) (tOp (rI (fun x j=>0<j) fun i j=>V.int (i % j)) (qg 4) (tC (V.int 5)))) (qd (qE T [] E0 (qd (qg 0) (qd (tOp (rI0 fun i j=>V.int (i - j)) (qg 1) (tC (V.int 1))) qo))) (qd (qE T [] E0 (qd (qg 0) (qd (tOp (rI0 fun i j=>V.int (i - j)) (qg 1) (tC (V.int 1))) qo))) qo)))))) zg) (qby K T B)
def qbw (K:Frag) (T:Sp) (B:Sp):TS:=qG (zz (qI (tOp (rIn K false) (qg 3) (jl (qd (tC (V.int 1)) (qd (tC (V.int 8)) (qd (tC (V.int 9)) qo)))))) (jb (jl (qd (tC (V.str "name")) (qd (tOp (rIx K) (qg 5) (tOp (rI (fun x j=>0<j) fun i j=>V.int (i % j)) (qg 4) (tCB (fun xs H Q=>∃ x n,xs=[x]∧v9 K x H n∧Q (V.int ↑n) H) (qd (qg 5) qo)))) qo)))) zg) (qbx K T B)
def Zj (K:Frag) (T B:Sp):TS:=qG (zz (qI (tOp rEq (qg 3) (tC (V.int 0)))) (jb (jl (qd (tC (V.str "number")) (qd (qE spNumber [] E0 (qd (qg 4) qo)) qo)))) zg) (qbw K T B)
inductive Iv_TreO3_0 (K:W.Frag) (H:Hp) (st:Addr) (a:Addr) (nm:Addr) (ns:List Int) (names:List Str) (k:Int) (l:Int) (n':Nat) (x1:V) (d1:PyData) (s1:Nat) (i:Nat) (ys:List V) (H':Hp):Prop
 | mk:∀ (ds:List PyData) (k' l':Int) (s t:Nat),(Stay st H H')→(DIn K H' st a nm ns names k' l')→(Reps K H' ys ds)→(Rep K H' x1 d1)→(ds.length=i)→(Tre.Fts names ds)→((∀ hands,Tre.Ptl (ds.map fun x=>(x,("term":Str))) hands s t))→(Bud.CI n' k l s1 i s t k' l')→Iv_TreO3_0 K H st a nm ns names k l n' x1 d1 s1 i ys H'
theorem V8 {H H2:Hp} {Q:VK} {n:Nat} {T B:Sp} {st a nm:Addr} {ns:List Int} {names:List Str} {k l deep z kd mo:Int} (hT:0<n→T=spTrm K (n - 1)) (hB:0<n→B=spBdy K (n - 1)) (pp:Bud.PT n deep k l)
  (q:∀ H' x d (s t:Nat) k' l',Stay st H H'→DIn K H' st a nm ns names k' l'→Rep K H' x d→Tre.Ft names d→(∀ hands,Tre.Pt d "term" hands s t)→Bud.BT n deep k l s t k' l'→Q x H')
  (di2:DIn K H2 st a nm ns names (k+1) (l - 1)) (sy2:Stay st H H2) (m0:0≤mo) (m1:mo<268435456) (hkd:0≤kd∧kd<10∧(deep<1∨l - 1<0→kd<2)):
  Zj K T B {nx:=fun _ H'=>Q .non H',rt:=Q} [some (.ref st),some (.int deep),some (.int z),some (.int kd),some (.int mo),some (.ref nm),none,none] H2:=by
 have fin1:∀ (H':Hp) (x:V) (d:PyData),qw H2 H'→Rep K H' x d→Tre.Ft names d→(∀ hands,Tre.Pt d "term" hands 1 1)→Q x H':=fun H' x d g r ff pt=>
  q H' x d 1 1 (k+1) (l - 1) (sy2.then g) (di2.same g) r ff pt .one
 obtain ⟨kd0,kd1,kd2⟩:=hkd;refine qe2 rfl (fun e0=>?_) (fun e0=>?_)
 ·skip
  refine ⟨_,rfl,_,rfl,m0,m1,fun i H3 hi g=>⟨(O0:2≤sizeLine),fun p hp=>?_⟩⟩;exact fin1 _ _ (.tuple [.str "number",.int i]) (g.trans (qe hp _)) (.tup (SqT.of upd_same) (.cons (.str _) (.cons (.int _) .nil))) (Tre.Fts.tup (.cons (.word ∅) (.cons (.int _) .nil))) fun hands=>Tre.qb9 hi
 refine ⟨_,rfl,(O0:3≤sizeLine),fun p1 hp1=>(inS (.inr (SqT.of upd_same)) rfl rfl ⟨_,rfl,?_⟩)⟩;have gp1:=qe hp1 (.tup [.int 1,.int 8,.int 9]);have di3:=di2.same gp1;have sy3:=sy2.then gp1;have fin3:∀ (H':Hp) (x:V) (d:PyData),qw (upd H2 p1 (.tup [.int 1,.int 8,.int 9])) H'→Rep K H' x d→Tre.Ft names d→(∀ hands,Tre.Pt d "term" hands 1 1)→Q x H':=fun H' x d g=>fin1 H' x d (gp1.trans g);generalize upd H2 p1 (.tup [.int 1,.int 8,.int 9])=H3 at di3 sy3 fin3 ⊢;have hnl:names.length=8:=di2.good.len
 by_cases e1:kd=1∨kd=8∨kd=9
 ·refine qZ (show inV _ _=true by rcases e1 with rfl | rfl | rfl <;> decide+kernel) ?_
  obtain ⟨v,hv,x,rfl,hx,hxn⟩:=V1 (xs:=names.map V.str) (i:=mo % (((names.map V.str).length:Nat):Int)) (p:=fun v=>∃ x,v= .str x∧Tre.qY x=true∧x∈names) (fun y hy=>by
   obtain ⟨x,hx,rfl⟩:=By.mp hy;exact ⟨x,rfl,di2.good.good x hx,hx⟩) (Bf _ (by rw [Ab,hnl];decide)) (A7 _ (by rw [Ab,hnl];decide))
  refine ⟨_,rfl,_,rfl,_,rfl,_,_,rfl,.inl ⟨_,di3.nms,rfl⟩,_,_,rfl,rfl,(show (0:Int)<(((names.map V.str).length:Nat):Int) by rw [Ab,hnl];decide),.inl ⟨_,_,_,_,rfl,rfl,di3.nms,hv,(O0:2≤sizeLine),fun p hp=>?_⟩⟩
  exact fin3 _ _ (.tuple [.str "name",.str x]) (qe hp _) (.tup (SqT.of upd_same) (.cons (.str _) (.cons (.str _) .nil))) (Tre.Fts.tup (.cons (.word ∅) (.cons (.name hx (Bh _ hxn)) .nil))) fun hands=>Tre.qgj hx
 refine qR (show inV _ _=false from qg1 e1) ?_;have hn1:0<n:=by have:=pp.1;omega
 have hl1:0≤l - 1:=⋯;have hd1:1≤deep:=⋯;clear kd0 kd1 kd2 e0 e1 m0 m1;obtain ⟨n',rfl⟩:∃ n',n=n'+1:=⟨n - 1,⋯⟩;have eT:T=spTrm K n':=hT hn1;have eB:B=spBdy K n':=hB hn1;have hS:=pp.many hl1 hd1;clear hT hB hn1 pp hl1 hd1;subst eT;subst eB;refine qg8 rfl (fun e4=>?_) (fun e4=>?_)
 ·skip
  obtain ⟨ch,hch,hsg,hsw⟩:=qf4 (i:=mo % 5) (Bf _ O0) (A7 _ O0);refine ⟨_,rfl,_,_,rfl,rfl,(show (0:Int)<5 from O0),.inr (.inr ⟨_,_,_,rfl,rfl,∅,hch,?_⟩)⟩;refine jH rfl rfl di3 hS.pt fun H4 x1 d1 s1 t1 k1 l1 sy4 di4 r1 f1 p1 b1=>?_;refine jH rfl rfl di4 (hS.pt1 b1) fun H5 x2 d2 s2 t2 k2 l2 sy5 di5 r2 f2 p2 b2=>⟨(O0:4≤sizeLine),fun p hp=>?_⟩;have g:=qe hp (.tup [.str "two",.str ⟨#[ch]⟩,x1,x2]);refine q _ _ (.tuple [.str "two",.str ⟨#[ch]⟩,d1,d2]) (s1+s2+1) (max t1 t2+1) k2 l2 (((sy3.trans sy4).trans sy5).then g) (di5.same g) (.tup (SqT.of upd_same) (.cons (.str _) (.cons (.str _) (.cons ((r1.stay sy5).same g) (.cons (r2.same g) .nil))))) ?_ (fun hands=>Tre.qii hsg (p1 hands) (p2 hands)) (hS.two b1 b2);exact Tre.Fts.tup (.cons (.word ∅) (.cons (.word hsw) (.cons f1 (.cons f2 .nil))))
 refine qg8 rfl (fun e6=>?_) (fun e6=>?_)
 ·skip
  refine ⟨_,rfl,_,rfl,_,_,rfl,rfl,(show (0:Int)<5 from O0),_,rfl,_,rfl,_,_,rfl,rfl,(show (0:Int)<5 from O0),_,rfl,_,_,rfl,rfl,⟨O0,O0⟩,_,_,rfl,rfl,(show (0:Int)<4 from O0),.inl ⟨_,_,rfl,rfl,_,rfl,.inl ⟨nm,_,rfl,di3.nms,fun p2 hp2=>⟨p2,_,rfl,.inl ⟨SqL.of upd_same,fun p3 hp3=>?_⟩⟩⟩⟩⟩;obtain ⟨cut,ecut,hcut,hgood⟩:=qc0 di2.good (lo:=mo % 5) (hi:=mo % 5+mo / 5 % 4) ⋯ ⋯;dsimp only at hp3 ⊢;rw [ecut] at hp3 ⊢;have g2:=qe hp2 (.lst (cut.map V.str));have g3:=qe hp3 (.tup (cut.map V.str));have h3:upd (upd H3 p2 (.lst (cut.map V.str))) p3 (.tup (cut.map V.str)) p3=some (.tup (cut.map V.str)):=upd_same;have di4:=(di3.same g2).same g3;have sy4:=(sy3.then g2).then g3;generalize upd (upd H3 p2 (.lst (cut.map V.str))) p3 (.tup (cut.map V.str))=H4 at h3 di4 sy4 ⊢;refine ⟨(O0:2≤sizeLine),fun p4 hp4=>?_⟩;have g4:=qe hp4 (.lst [.str "fun",.str "loop"]);have di5:=di4.same g4;have sy5:=sy4.then g4;have fcut:Tre.Fts names (cut.map PyData.str):= .of fun d hd=>by
   obtain ⟨x,hx,rfl⟩:=By.mp hd;exact .name (hgood x hx).1 (Bh _ (hgood x hx).2)
  obtain ⟨hh,bb,hat,hbb,hwd⟩:∃ (hh:Str) (bb:Bool),atI [V.str "fun",V.str "loop"] (kd - 4)=some (.str hh)∧decide (V.int kd=V.int 5)=bb∧((hh="fun"∧bb=false)∨(hh="loop"∧bb=true)):=by
   have h45:kd=4∨kd=5:=⋯;rcases h45 with rfl | rfl
   ·exact ⟨"fun",false,qk (j:=0) rfl,O0,.inl ⟨rfl,rfl⟩⟩
   ·exact ⟨"loop",true,qk (j:=1) rfl,O0,.inr ⟨rfl,rfl⟩⟩
  refine ⟨_,rfl,_,_,rfl,rfl,ixL (SqL.of upd_same) hat ⟨_,rfl,_,rfl,_,rfl,_,_,rfl,rfl,_,rfl,rfl,?_⟩⟩;dsimp only;rw [hbb];refine qh4 (may:=bb) di5 hS.pb fun H6 x6 ds s6 t6 k6 l6 sy6 di6 r6 f6 bd6 b6=>⟨(O0:3≤sizeLine),fun p hp=>?_⟩;have g:=qe hp (.tup [.str hh,.ref p3,x6]);refine q _ _ (.tuple [.str hh,.tuple (cut.map PyData.str),.tuple ds]) (s6+1) (t6+1) k6 l6 ((sy5.trans sy6).then g) (di6.same g) (.tup (SqT.of upd_same) (.cons (.str _) (.cons (.tup (g.sqT (sy6.sqT (SqT.of (g4 _ _ h3)))) (Reps.strs cut)) (.cons (r6.same g) .nil)))) ?_ (fun hands=>?_) (hS.fn b6)
  ·exact Tre.Fts.tup (.cons (.word (by rcases hwd with ⟨rfl,_⟩ | ⟨rfl,_⟩ <;> decide+kernel)) (.cons fcut.tup (.cons f6.tup .nil)))
  ·rcases hwd with ⟨rfl,rfl⟩ | ⟨rfl,rfl⟩
   ·exact Tre.qim hcut bd6
   ·exact Tre.qgl hcut bd6
 refine qe2 rfl (fun e7=>?_) (fun e7=>?_)
 ·skip
  refine jH rfl rfl di3 hS.pt fun H4 x1 d1 s1 t1 k1 l1 sy4 di4 r1 f1 p1 b1=>?_;have mo0:=Bf mo (show (5:Int)≠0 from O0);have mo1:=A7 mo (show (0:Int)<5 from O0);refine ⟨_,rfl,_,rfl,_,_,rfl,rfl,(show (0:Int)<5 from O0),_,rfl,⋯,⋯,?_⟩;generalize hcn:(mo % 5).toNat=cnt;have hc4:cnt≤4:=⋯;refine zG cnt (Iv_TreO3_0 K H st a nm ns names k l n' x1 d1 s1) ?_ (fun i ys H' h=>?_) (Av hc4 O0) (fun i ys H' hi h=>?_) (fun ys H' h=>?_)
  ·exact ⟨[],k1,l1,0,0,sy3.trans sy4,di4,.nil,r1,rfl,.nil,fun _=> .nil,.nil hS b1⟩
  ·obtain ⟨ds,k',l',s,t,_,_,rs,_,hl,_⟩:=h;have:=rs.length;omega
  ·obtain ⟨ds,k',l',s,t,sy,di5,rs,r1',hl,hf,pt,ci⟩:=h;refine ⟨hi,fun v H5 yl=>?_⟩;obtain ⟨rfl,rfl⟩:=yl;refine jH rfl rfl di5 (ci.pre hS ⋯) fun H6 x d s2 t2 k2 l2 sy6 di6 rx fx px b2=>?_;refine ⟨ds++[d],k2,l2,s+s2,max t t2,sy.trans sy6,di6,(rs.stay sy6).append (.cons rx .nil),r1'.stay sy6,by rw [Ac,hl];rfl,hf.snoc fx,fun hands=>?_,ci.snoc b2⟩
   rw [An];exact (pt hands).append (Tre.jG (px hands))
  ·obtain ⟨ds,k',l',s,t,sy,di5,rs,r1',hl,hf,pt,ci⟩:=h;refine ⟨Ah _,fun D hD=>?_⟩;refine ⟨D,ys,rfl,.inl ⟨SqL.of upd_same,fun p2 hp2=>⟨(O0:3≤sizeLine),fun p3 hp3=>?_⟩⟩⟩;have ga:=(qe hD (.lst ys)).trans (qe hp2 (.tup ys));have gb:=qe hp3 (.tup [.str "call",x1,.ref p2]);have g:=ga.trans gb;refine q _ _ (.tuple [.str "call",d1,.tuple ds]) (s1+s+1) (max t1 t+1) k' l' (sy.then g) (di5.same g) (.tup (SqT.of upd_same) (.cons (.str _) (.cons (r1'.same g) (.cons (.tup (gb.sqT (SqT.of upd_same)) (rs.same g)) .nil)))) ?_ (fun hands=>Tre.qgm (p1 hands) ⋯ (pt hands)) (ci.out hS b1 hc4);exact Tre.Fts.tup (.cons (.word ∅) (.cons f1 (.cons hf.tup .nil)))
 refine jH rfl rfl di3 hS.pt fun H4 x1 d1 s1 t1 k1 l1 sy4 di4 r1 f1 p1 b1=>?_;refine jH rfl rfl di4 (hS.pt1 b1) fun H5 x2 d2 s2 t2 k2 l2 sy5 di5 r2 f2 p2 b2=>⟨(O0:3≤sizeLine),fun p hp=>?_⟩;have g:=qe hp (.tup [.str "step",x1,x2]);refine q _ _ (.tuple [.str "step",d1,d2]) (s1+s2+1) (max t1 t2+1) k2 l2 (((sy3.trans sy4).trans sy5).then g) (di5.same g) (.tup (SqT.of upd_same) (.cons (.str _) (.cons ((r1.stay sy5).same g) (.cons (r2.same g) .nil)))) ?_ (fun hands=>Tre.qgi (p1 hands) (p2 hands)) (hS.two b1 b2);exact Tre.Fts.tup (.cons (.word ∅) (.cons f1 (.cons f2 .nil)))
def X8:TS:=qX (tOp (rI (fun x j=>0<j) fun i j=>V.int (i % j)) (qg 3) (tC (V.int 2))) (qv 3)
def Yw (K:Frag) (T:Sp) (B:Sp):TS:=qG (zz (tOr (qI (tOp (rI0 fun i j=>V.bl (decide (i<j))) (qg 1) (tC (V.int 1)))) (qI (tOp (rI0 fun i j=>V.bl (decide (i<j))) (VO (qg 0) (tC (V.str "left"))) (tC (V.int 0))))) X8 zg) (Zj K T B)
def Yv (K:Frag) (T:Sp) (B:Sp):TS:=qG (qX (VO (qg 0) (tC (V.str "names"))) (qv 5)) (Yw K T B)
def Yu (K:Frag) (T:Sp) (B:Sp):TS:=qG (qX (tOp (rI qdf fun i j=>V.int (i / j)) (qg 2) (tC (V.int 10))) (qv 4)) (Yv K T B)
def Yt (K:Frag) (T:Sp) (B:Sp):TS:=qG (qX (tOp (rI (fun x j=>0<j) fun i j=>V.int (i % j)) (qg 2) (tC (V.int 10))) (qv 3)) (Yu K T B)
def Ys (K:Frag) (T:Sp) (B:Sp):TS:=qG (YJ (qg 0) (tC (V.str "left")) (tOp (rI0 fun i j=>V.int (i - j)) (VO (qg 0) (tC (V.str "left"))) (tC (V.int 1)))) (Yt K T B)
theorem Wc (F:Fun K "_law_term" "_law_term" Jo f fd) (c:Cs K mg ad) (n:Nat) (T B:Sp) (hT:0<n→T=spTrm K (n - 1)) (hB:0<n→B=spBdy K (n - 1)) (d_law_next:Def P w K mg base 2 "_law_next" ["_law_state"] (spNext K)) (d_law_number:Def P w K mg base 1 "_law_number" ["_law_more"] spNumber)
  (d_law_term:Def P w K mg base (4*n+3) "_law_term" ["_law_state","_law_deep"] T) (d_law_body:Def P w K mg base (4*n+3) "_law_body" ["_law_state","_law_deep","_law_may_hand"] B):FnOk P w K mg base CX0 (4*n+4) f fd ["_law_state","_law_deep"] (spTrm K n):=by
 refine F.ok (k:=4*n+3) zR (fun vs H Q E h=>?_) (fun cdv A outer s H vs Q E hr h=>?_)
 ·obtain ⟨st,a,nm,ns,names,k,l,deep,rfl,_⟩:=h;rfl
 obtain ⟨st,a,nm,ns,names,k,l,deep,rfl,di,pp,q⟩:=h;have hu:=yz hr;refine ⟨_,(qf (pst 2 zR.nd (pdf d_law_next (qb (pv 0) qc)))
   (qf (vP hu (pv 0) qp (qu zu (jp hu (pv 0) qp (fun _ _=>rfl)) qh) rfl)
   (qf (pst 3 zR.nd (qu zc (pv 2) qh))
   (qf (pst 4 zR.nd (qu jq (pv 2) qh))
   (qf (pst 5 zR.nd (jp hu (pv 0) qp (fun _ _=>rfl)))
   (qf (qN (PW.pt (ve (qt Vd (pv 1) qh (qD _)) (JK (qt Vd (jp hu (pv 0) qp (fun _ _=>rfl)) qh (qD _))))) (qi (pst 3 zR.nd (qu zc (pv 3) qh))) qB)
   (qf (qN (qt zy (pv 3) qh (qD _)) (qi (qy (qO (qb qp (qb (pdf d_law_number (qb (pv 4) qc)) qc))))) qB)
   (qf (qN (qt (yx (K:=K) rfl) (pv 3) (qO (qb qh (qb qh (qb qh qc)))) rfl) (qi (qy (qO (qb qp (qb (pix K (pv 5) (qu zc (pv 4) (qz (jw (K:=K) rfl) (by rfl) c.len_ zJ (qb (pv 5) qc)))) qc))))) qB)
   (qf (qN (qt Vd (pv 3) qh (qD _)) (qi (qy (qO (qb qp (qb (pix K qp (qu zc (pv 4) qh)) (qb (pdf d_law_term (qb (pv 0) (qb (qu zu (pv 1) qh) qc))) (qb (pdf d_law_term (qb (pv 0) (qb (qu zu (pv 1) qh) qc))) qc))))))) qB)
   (qf (qN (qt Vd (pv 3) qh (qD _)) (qf (pst 6 zR.nd (zk (Jw (K:=K) rfl) (by rfl) c.tuple_ zH (qb (jY (Zr (K:=K) rfl) (pv 5) (Jg (qu zc (pv 4) qh)) (Jg (qu zb (qu zc (pv 4) qh) (qu zc (qu jq (pv 4) qh) qh)))) qc)))
   (qi (qy (qO (qb (pix K (zj (qb qp (qb qp qc))) (qu zu (pv 3) qh)) (qb (pv 6) (qb (pdf d_law_body (qb (pv 0) (qb (qu zu (pv 1) qh) (qb (jF zy (pv 3) qh (qD _)) qc)))) qc))))))) qB)
   (qf (qN (qt zy (pv 3) qh (qD _)) (qf (pst 7 zR.nd (pdf d_law_term (qb (pv 0) (qb (qu zu (pv 1) qh) qc))))
   (qi (qy (qO (qb qp (qb (pv 7) (qb (zk (Jw (K:=K) rfl) (by rfl) c.tuple_ zH (qb (jk (sc:=qj Jo) (NX:=["_law_state","_law_deep","_law_number_here","_law_kind","_law_more","_law_names_here","_law_params","_law_maker"]) (N:=["_law_turn","_law_state","_law_deep"]) (js:=[none,some 0,some 1]) (jj rfl c.range_ (qb (qu zc (pv 4) qh) qc)) (fun _ _ _ _ _=>(zn (i:=0) (show (["_law_turn","_law_state","_law_deep"]:List Str).Nodup from ∅) rfl (Or.inl rfl))) (fun _ _ _ _ _=>jE) (fun _ _ _ _ _=>(pdf d_law_term (qb (pv 1) (qb (qu zu (pv 2) qh) qc)))) (zF rfl) ⟨∅,rfl,∅,∅,rfl,∅⟩) qc)) qc))))))) qB)
   (qi (qy (qO (qb qp (qb (pdf d_law_term (qb (pv 0) (qb (qu zu (pv 1) qh) qc))) (qb (pdf d_law_term (qb (pv 0) (qb (qu zu (pv 1) qh) qc))) qc))))))))))))))))),?_⟩
 show qG (qX (qE (spNext K) [] E0 (qd (qg 0) qo)) (qv 2)) (Ys K T B) _ _ _;clear hu;refine ⟨_,rfl,st,a,nm,ns,k,l,rfl,di.dict,di.cells,pp.2.1,(by have:=pp.2.2;omega),fun z H1 hz0 hz1 e1=>?_⟩
 have di1:DIn K H1 st a nm ns names (k+1) l:=e1▸di.put;have sy1:Stay st H H1:=e1▸Stay.put di.dict;clear e1;refine ⟨_,rfl,_,_,rfl,(by rw [← vN a (k+1) l nm];exact j9.k (k:=Sum.inr "left") di1.dict),_,_,rfl,rfl,?_⟩
 refine ⟨_,rfl,st,upd H1 st (.dK (stK a (k+1) (l - 1) nm)),rfl,(by rw [← W1 a (k+1) l nm (l - 1)];exact YD.k (k:=Sum.inr "left") di1.dict (C4 (show 4≤1000 from O0) O0)),?_⟩
 have di2:DIn K (upd H1 st (.dK (stK a (k+1) (l - 1) nm))) st a nm ns names (k+1) (l - 1):=di1.put;have sy2:Stay st H (upd H1 st (.dK (stK a (k+1) (l - 1) nm))):=sy1.trans (Stay.put di1.dict);generalize upd H1 st (.dK (stK a (k+1) (l - 1) nm))=H2 at di2 sy2 ⊢;have gL:j9 H2 st (.str "left") (some (.int (l - 1))):=by rw [← vN a (k+1) (l - 1) nm];exact j9.k (k:=Sum.inr "left") di2.dict
 have gN:j9 H2 st (.str "names") (some (.ref nm)):=by rw [← Zq a (k+1) (l - 1) nm];exact j9.k (k:=Sum.inr "names") di2.dict
 refine ⟨_,rfl,_,_,rfl,rfl,(show (0:Int)<10 from O0),_,rfl,_,_,rfl,rfl,⟨O0,O0⟩,_,rfl,st,_,rfl,gN,?_⟩;have m0:0≤z / 10:=⋯;have m1:z / 10<268435456:=⋯;refine ⟨_,rfl,_,_,rfl,rfl,_,rfl,?_⟩;have kz0:=Bf z (show (10:Int)≠0 from O0);have kz1:=A7 z (show (0:Int)<10 from O0);have km0:=Bf (z % 10) (show (2:Int)≠0 from O0);have km1:=A7 (z % 10) (show (0:Int)<2 from O0);refine v1 (fun c1=>vB ⟨_,rfl,_,_,rfl,rfl,(show (0:Int)<2 from O0),?g1⟩) (fun c1=>⟨_,rfl,st,_,rfl,gL,_,_,rfl,rfl,_,rfl,v1 (fun c2=>⟨_,rfl,_,_,rfl,rfl,(show (0:Int)<2 from O0),?g2⟩) (fun c2=>?g3)⟩)
 case g1=>
  have hkd:0≤z % 10 % 2∧z % 10 % 2<10∧(deep<1∨l - 1<0→z % 10 % 2<2):=⟨km0,⋯,fun _=>km1⟩;exact V8 hT hB pp q di2 sy2 m0 m1 hkd
 case g2=>
  have hkd:0≤z % 10 % 2∧z % 10 % 2<10∧(deep<1∨l - 1<0→z % 10 % 2<2):=⟨km0,⋯,fun _=>km1⟩;exact V8 hT hB pp q di2 sy2 m0 m1 hkd
 case g3=>
  have c1':¬ deep<1:=by simpa using c1
  have c2':¬ l - 1<0:=by simpa using c2
  have hkd:0≤z % 10∧z % 10<10∧(deep<1∨l - 1<0→z % 10<2):=⟨kz0,kz1,fun h=>⋯⟩;exact V8 hT hB pp q di2 sy2 m0 m1 hkd
theorem qk6 {c:Bool} {A B:Prop} (hA:c=true→B→A) (hB:B):if c=true then A else B:=by
 cases c with
 | true=>exact qZ rfl (hA rfl hB)
 | false=>exact qR rfl hB
structure BS where
 xs:List PyData
 s:Nat
 t:Nat
def qd3 (K:Frag):TS:=jb (jl (qd (tC (V.str "try")) (qd (tOp (rIx K) (qg 8) (tC (V.int 0))) (qd (qg 6) (qd (qg 5) (qd (tOp (rIx K) (qg 8) (tC (V.int 1))) (qd (tOp (rIx K) (qg 8) (tC (V.int 2))) qo)))))))
def qd2 (K:Frag) (B:Sp):TS:=qG (qX (vm (Z0 (qd (tC (V.int 3)) qo)) [none,some 0,some 2,some 1] (qv 0) Zl (qE B [] E0 (qd (qg 1) (qd (tOp (rI0 fun i j=>V.int (i - j)) (qg 3) (tC (V.int 1))) (qd (qg 2) qo))))) (qv 8)) (qd3 K)
def qd1 (K:Frag) (m:Nat) (B:Sp):TS:=qG (zz (qI (tOp rEq (qg 4) (tC (V.int 7)))) (qG (qX (qE (spTrm K m) [] E0 (qd (qg 0) (qd (tOp (rI0 fun i j=>V.int (i - j)) (qg 1) (tC (V.int 1))) qo))) (qv 7)) (jb (jl (qd (tC (V.str "if")) (qd (qg 7) (qd (qE B [] E0 (qd (qg 0) (qd (tOp (rI0 fun i j=>V.int (i - j)) (qg 1) (tC (V.int 1))) (qd (qg 2) qo)))) (qd (qE B [] E0 (qd (qg 0) (qd (tOp (rI0 fun i j=>V.int (i - j)) (qg 1) (tC (V.int 1))) (qd (qg 2) qo)))) qo))))))) zg) (qd2 K B)
def qd0 (K:Frag) (m:Nat) (B:Sp):TS:=qG (zz (qI (tOp rEq (qg 4) (tC (V.int 6)))) (jb (jl (qd (tC (V.str "while")) (qd (qE (spTrm K m) [] E0 (qd (qg 0) (qd (tOp (rI0 fun i j=>V.int (i - j)) (qg 1) (tC (V.int 1))) qo))) (qd (qE B [] E0 (qd (qg 0) (qd (tOp (rI0 fun i j=>V.int (i - j)) (qg 1) (tC (V.int 1))) (qd (qg 2) qo)))) qo))))) zg) (qd1 K m B)
def qdz (K:Frag) (m:Nat) (B:Sp):TS:=qG (zz (qI (tOp rEq (qg 4) (tC (V.int 5)))) (jb (jl (qd (tC (V.str "fault")) (qd (tOp (rIx K) (Jv (qd (qg 6) (qd (tC (V.str "anya")) qo))) (tCB (fun xs H Q=>(∃ i,xs=[V.int i]∧Q (V.int i) H)∨∃ k,xs=[V.bl k]∧Q (V.int (if k=true then 1 else 0)) H) (qd (tOp rEq (qg 6) (tC (V.str "any"))) qo))) (qd (qE (spTrm K m) [] E0 (qd (qg 0) (qd (tOp (rI0 fun i j=>V.int (i - j)) (qg 1) (tC (V.int 1))) qo))) qo))))) zg) (qd0 K m B)
def qdy (K:Frag) (m:Nat) (B:Sp):TS:=qG (zz (qI (tOp (rI0 fun i j=>V.bl (decide (i<j))) (qg 4) (tC (V.int 5)))) (jb (jl (qd (tOp (rIx K) (Jv (qd (tC (V.str "hand")) (qd (tC (V.str "do")) (qd (tC (V.str "back")) qo)))) (tOp (rI0 fun i j=>V.int (i - j)) (qg 4) (tC (V.int 2)))) (qd (qE (spTrm K m) [] E0 (qd (qg 0) (qd (tOp (rI0 fun i j=>V.int (i - j)) (qg 1) (tC (V.int 1))) qo))) qo)))) zg) (qdz K m B)
def qan (K:Frag) (m:Nat) (B:Sp):TS:=qG (zz (qI (tOp (rI0 fun i j=>V.bl (decide (i<j))) (qg 4) (tC (V.int 2)))) (jb (jl (qd (tOp (rIx K) (Jv (qd (tC (V.str "let")) (qd (tC (V.str "set")) qo))) (qg 4)) (qd (qg 5) (qd (qE (spTrm K m) [] E0 (qd (qg 0) (qd (tOp (rI0 fun i j=>V.int (i - j)) (qg 1) (tC (V.int 1))) qo))) qo))))) zg) (qdy K m B)
def qam (K:Frag) (m:Nat) (B:Sp):TS:=qG (zz (VP (qI (tOp rEq (qg 4) (tC (V.int 2)))) (qdr (tB (qg 2)))) (qX (tC (V.int 3)) (qv 4)) zg) (qan K m B)
inductive Iv_TreP3_0 (K:W.Frag) (H:Hp) (m:Nat) (st:Addr) (a:Addr) (nm:Addr) (ns:List Int) (names:List Str) (k:Int) (l:Int) (may:Bool) (i:Nat) (ys:List V) (H':Hp):Prop
 | mk:∀ (bs:List BS) (k' l':Int),(Stay st H H')→(DIn K H' st a nm ns names k' l')→(Reps K H' ys (bs.map fun b=> .tuple b.xs))→(bs.length=i)→((∀ b∈bs,Tre.Bd b.xs may b.s b.t∧Tre.Fts names b.xs∧b.t≤m+2))→(Bud.TI m k l i (bs.map fun b=>b.s).sum k' l')→Iv_TreP3_0 K H m st a nm ns names k l may i ys H'
theorem Zz {H H3:Hp} {Q:VK} {n m:Nat} {B:Sp} {st a nm:Addr} {ns:List Int} {names:List Str} {k l deep z kd:Int} {may:Bool} {x wd:Str} (hm:Bud.Near n m) (hB:0<n→B=spBdy K m) (pp:Bud.PS n deep k l)
  (q:∀ H' x d (s t:Nat) k' l',Stay st H H'→DIn K H' st a nm ns names k' l'→Rep K H' x d→Tre.Ft names d→Tre.Pt d "statement" may s t→Bud.BS n k l s t k' l'→Q x H')
  (hx:Tre.qY x=true∧x∈names) (hw:Tre.qY wd=true∧wd∈Tre.vh++names) (di3:DIn K H3 st a nm ns names (k+1) (l - 1)) (sy3:Stay st H H3) (e3':kd=2→may=true) (hkd:0≤kd∧kd<10∧(deep<2∨l - 1<0→kd<5)):
  qan K m B {nx:=fun _ H'=>Q .non H',rt:=Q} [some (.ref st),some (.int deep),some (.bl may),some (.int z),some (.int kd),some (.str x),some (.str wd),none,none] H3:=by
 have pt:=pp.pt hm;obtain ⟨kd0,kd1,kd2⟩:=hkd;refine qg8 rfl (fun e2=>?_) (fun e2=>?_)
 ·skip
  refine ⟨(O0:2≤sizeLine),fun p1 hp1=>?_⟩;have gp1:=qe hp1 (.lst [.str "let",.str "set"]);have di4:=di3.same gp1;have sy4:=sy3.then gp1;obtain ⟨hh,hat,hhl⟩:∃ hh:Str,atI [V.str "let",V.str "set"] kd=some (.str hh)∧(hh="let"∨hh="set"):=by
   have:kd=0∨kd=1:=⋯;rcases this with rfl | rfl
   ·exact ⟨"let",qk (j:=0) rfl,.inl rfl⟩
   ·exact ⟨"set",qk (j:=1) rfl,.inr rfl⟩
  refine ⟨_,rfl,ixL (SqL.of upd_same) hat ⟨_,rfl,?_⟩⟩;refine jH rfl rfl di4 pt fun H5 x1 d1 s1 t1 k1 l1 sy5 di5 r1 f1 q1 b1=>⟨(O0:3≤sizeLine),fun p hp=>?_⟩;have g:=qe hp (.tup [.str hh,.str x,x1]);exact q _ _ (.tuple [.str hh,.str x,d1]) (s1+1) (t1+1) k1 l1 ((sy4.trans sy5).then g) (di5.same g) (.tup (SqT.of upd_same) (.cons (.str _) (.cons (.str _) (.cons (r1.same g) .nil)))) (Tre.Fts.tup (.cons (.word (by rcases hhl with rfl | rfl <;> decide+kernel)) (.cons (.name hx.1 (Bh _ hx.2)) (.cons f1 .nil)))) (Tre.qik hhl hx.1 (q1 may)) (pp.one hm b1)
 refine qg8 rfl (fun e5=>?_) (fun e5=>?_)
 ·skip
  refine ⟨(O0:3≤sizeLine),fun p1 hp1=>?_⟩;have gp1:=qe hp1 (.lst [.str "hand",.str "do",.str "back"]);have di4:=di3.same gp1;have sy4:=sy3.then gp1;obtain ⟨hh,hat,hhl⟩:∃ hh:Str,atI [V.str "hand",V.str "do",V.str "back"] (kd - 2)=some (.str hh)∧(hh="do"∨hh="back"∨(hh="hand"∧may=true)):=by
   have:kd=2∨kd=3∨kd=4:=⋯;rcases this with rfl | rfl | rfl
   ·exact ⟨"hand",qk (j:=0) rfl,.inr (.inr ⟨rfl,e3' rfl⟩)⟩
   ·exact ⟨"do",qk (j:=1) rfl,.inl rfl⟩
   ·exact ⟨"back",qk (j:=2) rfl,.inr (.inl rfl)⟩
  refine ⟨_,rfl,_,_,rfl,rfl,ixL (SqL.of upd_same) hat ?_⟩;refine jH rfl rfl di4 pt fun H5 x1 d1 s1 t1 k1 l1 sy5 di5 r1 f1 q1 b1=>⟨(O0:2≤sizeLine),fun p hp=>?_⟩;have g:=qe hp (.tup [.str hh,x1]);exact q _ _ (.tuple [.str hh,d1]) (s1+1) (t1+1) k1 l1 ((sy4.trans sy5).then g) (di5.same g) (.tup (SqT.of upd_same) (.cons (.str _) (.cons (r1.same g) .nil))) (Tre.Fts.tup (.cons (.word (by rcases hhl with rfl | rfl | ⟨rfl,_⟩ <;> decide+kernel)) (.cons f1 .nil))) (Tre.qkq hhl (q1 may)) (pp.one hm b1)
 have hl1:0≤l - 1:=⋯;have hd1:2≤deep:=⋯;have hnm:n=m+1:=by have:=pp.1;have:=hm.2;omega
 subst hnm;have hm1:1≤m:=by have:=pp.1;omega
 have eB:B=spBdy K m:=hB ⋯;have hS:=pp.many hl1 ⋯;clear kd2 kd0 e3' e2 hB hl1 hd1;subst eB;refine qe2 rfl (fun e6=>?_) (fun e6=>?_)
 ·skip
  obtain ⟨y,hat,hy,hyn⟩:∃ y:Str,atI [V.str wd,V.str "anya"] (if decide (V.str wd=V.str "any")=true then 1 else 0)=some (.str y)∧(Tre.qY y&&y !="any")=true∧y∈Tre.vh++names:=by
   by_cases ew:wd="any"
   ·rw [if_pos (Ak (congrArg V.str ew))];exact ⟨"anya",qk (j:=1) rfl,∅,B7 _ ∅⟩
   ·rw [if_neg (by rw [As fun z=>ew (V.str.inj z)];exact Ag)]
    exact ⟨wd,qk (j:=0) rfl,by rw [hw.1,Cm];exact bne_iff_ne.mpr ew,hw.2⟩
  refine ⟨_,rfl,(O0:2≤sizeLine),fun p1 hp1=>?_⟩;have gp1:=qe hp1 (.lst [.str wd,.str "anya"]);have di4:=di3.same gp1;have sy4:=sy3.then gp1;refine ⟨_,rfl,rfl,.inr ⟨_,rfl,ixL (SqL.of upd_same) hat ?_⟩⟩;refine jH rfl rfl di4 pt fun H5 x1 d1 s1 t1 k1 l1 sy5 di5 r1 f1 q1 b1=>⟨(O0:3≤sizeLine),fun p hp=>?_⟩;have g:=qe hp (.tup [.str "fault",.str y,x1]);have hy1:Tre.qY y=true:=(Ae _ _▸hy).1;exact q _ _ (.tuple [.str "fault",.str y,d1]) (s1+1) (t1+1) k1 l1 ((sy4.trans sy5).then g) (di5.same g) (.tup (SqT.of upd_same) (.cons (.str _) (.cons (.str _) (.cons (r1.same g) .nil)))) (Tre.Fts.tup (.cons (.word ∅) (.cons (.name hy1 hyn) (.cons f1 .nil)))) (Tre.qeg hy (q1 may)) (pp.one hm b1)
 refine qe2 rfl (fun e7=>?_) (fun e7=>?_)
 ·skip
  refine jH rfl rfl di3 pt fun H4 x1 d1 s1 t1 k1 l1 sy4 di4 r1 f1 q1 b1=>?_;refine WS rfl rfl rfl di4 (hS.pb1 b1) fun H5 x2 ds2 s2 t2 k2 l2 sy5 di5 r2 f2 bd2 b2=>⟨(O0:3≤sizeLine),fun p hp=>?_⟩;have g:=qe hp (.tup [.str "while",x1,x2]);exact q _ _ (.tuple [.str "while",d1,.tuple ds2]) (s1+s2+1) (max t1 t2+1) k2 l2 (((sy3.trans sy4).trans sy5).then g) (di5.same g) (.tup (SqT.of upd_same) (.cons (.str _) (.cons ((r1.stay sy5).same g) (.cons (r2.same g) .nil)))) (Tre.Fts.tup (.cons (.word ∅) (.cons f1 (.cons f2.tup .nil)))) (Tre.qee (q1 may) bd2) (hS.wh b1 b2)
 refine qe2 rfl (fun e8=>?_) (fun e8=>?_)
 ·skip
  refine jH rfl rfl di3 pt fun H4 x1 d1 s1 t1 k1 l1 sy4 di4 r1 f1 q1 b1=>?_;refine ⟨_,rfl,?_⟩;refine WS rfl rfl rfl di4 (hS.pb1 b1) fun H5 x2 ds2 s2 t2 k2 l2 sy5 di5 r2 f2 bd2 b2=>?_;refine WS rfl rfl rfl di5 (hS.pb2 b1 b2) fun H6 x3 ds3 s3 t3 k3 l3 sy6 di6 r3 f3 bd3 b3=>⟨(O0:4≤sizeLine),fun p hp=>?_⟩;have g:=qe hp (.tup [.str "if",x1,x2,x3]);exact q _ _ (.tuple [.str "if",d1,.tuple ds2,.tuple ds3]) (s1+(s2+s3)+1) (max t1 (max t2 t3)+1) k3 l3 ((((sy3.trans sy4).trans sy5).trans sy6).then g) (di6.same g) (.tup (SqT.of upd_same) (.cons (.str _) (.cons (((r1.stay sy5).stay sy6).same g) (.cons ((r2.stay sy6).same g) (.cons (r3.same g) .nil))))) (Tre.Fts.tup (.cons (.word ∅) (.cons f1 (.cons f2.tup (.cons f3.tup .nil))))) (Tre.qkp (q1 may) bd2 bd3) (hS.if_ b1 b2 b3)
 refine ⟨_,rfl,O0,O0,?_⟩;refine zG 3 (Iv_TreP3_0 K H m st a nm ns names k l may) ?_ (fun i ys H' h=>?_) O0 (fun i ys H' hi h=>?_) (fun ys H' h=>?_)
 ·exact ⟨[],k+1,l - 1,sy3,di3,.nil,rfl,fun b hb=>(by cases hb),.nil hS hm1⟩
 ·obtain ⟨bs,k',l',_,_,rs,hl,_⟩:=h;have:=rs.length;rw [Ab] at this;omega
 ·obtain ⟨bs,k',l',sy,di5,rs,hl,hb,ti⟩:=h;refine ⟨hi,fun v H5 yl=>?_⟩;obtain ⟨rfl,rfl⟩:=yl;refine WS rfl rfl rfl di5 (ti.pre hS hi) fun H6 x2 ds2 s2 t2 k2 l2 sy6 di6 r2 f2 bd2 b2=>?_;refine ⟨bs++[⟨ds2,s2,t2⟩],k2,l2,sy.trans sy6,di6,?_,by rw [Ac,hl];rfl,fun b hb'=>?_,?_⟩
  ·rw [An];exact (rs.stay sy6).append (.cons r2 .nil)
  ·rcases Bl.mp hb' with h1 | h1
   ·exact hb b h1
   ·cases Az.mp h1;exact ⟨bd2,f2,b2.2.1⟩
  ·rw [An,List.sum_append];exact ti.snoc b2
 ·obtain ⟨bs,k',l',sy,di5,rs,hl,hb,ti⟩:=h
  match bs,hl with
  | [z0,z1,z2],_=>
   refine ⟨Ah _,fun D hD=>?_⟩;cases rs with
   | @cons y0 _ _ _ r0 rs=>
    cases rs with
    | @cons y1 _ _ _ r1 rs=>
     cases rs with
     | @cons y2 _ _ _ r2 rs=>
      cases rs;have gD:=qe hD (.lst [y0,y1,y2]);have sD:SqL K (upd H' D (.lst [y0,y1,y2])) D [y0,y1,y2]:=SqL.of upd_same;refine ⟨_,rfl,.inl ⟨D,_,_,_,rfl,rfl,sD,qk (j:=0) rfl,_,rfl,_,rfl,_,rfl,.inl ⟨D,_,_,_,rfl,rfl,sD,qk (j:=1) rfl,_,rfl,.inl ⟨D,_,_,_,rfl,rfl,sD,qk (j:=2) rfl,(O0:6≤sizeLine),fun p hp=>?_⟩⟩⟩⟩;have g:=gD.trans (qe hp (.tup [.str "try",y0,.str wd,.str x,y1,y2]));obtain ⟨bd0,f0,t0⟩:=hb z0 (by simp)
      obtain ⟨bd1,f1,t1⟩:=hb z1 (by simp)
      obtain ⟨bd2,f2,t2⟩:=hb z2 (by simp)
      exact q _ _ (.tuple [.str "try",.tuple z0.xs,.str wd,.str x,.tuple z1.xs,.tuple z2.xs]) (z0.s+(z1.s+z2.s)+1) (max z0.t (max z1.t z2.t)+1) k' l' (sy.then g) (di5.same g) (.tup (SqT.of upd_same) (.cons (.str _) (.cons (r0.same g) (.cons (.str _) (.cons (.str _) (.cons (r1.same g) (.cons (r2.same g) .nil))))))) (Tre.Fts.tup (.cons (.word ∅) (.cons f0.tup (.cons (.name hw.1 hw.2) (.cons (.name hx.1 (Bh _ hx.2)) (.cons f1.tup (.cons f2.tup .nil))))))) (Tre.qij hw.1 hx.1 bd0 bd1 bd2) (ti.out hS rfl t0 t1 t2)
theorem WZ {H H3:Hp} {Q:VK} {n m:Nat} {B:Sp} {st a nm:Addr} {ns:List Int} {names:List Str} {k l deep z kd:Int} {may:Bool} {x wd:Str} (hm:Bud.Near n m) (hB:0<n→B=spBdy K m) (pp:Bud.PS n deep k l)
  (q:∀ H' x d (s t:Nat) k' l',Stay st H H'→DIn K H' st a nm ns names k' l'→Rep K H' x d→Tre.Ft names d→Tre.Pt d "statement" may s t→Bud.BS n k l s t k' l'→Q x H')
  (hx:Tre.qY x=true∧x∈names) (hw:Tre.qY wd=true∧wd∈Tre.vh++names) (di3:DIn K H3 st a nm ns names (k+1) (l - 1)) (sy3:Stay st H H3) (hkd:0≤kd∧kd<10∧(deep<2∨l - 1<0→kd<5)):
  qam K m B {nx:=fun _ H'=>Q .non H',rt:=Q} [some (.ref st),some (.int deep),some (.bl may),some (.int z),some (.int kd),some (.str x),some (.str wd),none,none] H3:=by
 refine ⟨_,rfl,rfl,_,rfl,?_⟩
 by_cases e3:kd=2∧may=false
 ·obtain ⟨rfl,rfl⟩:=e3;refine qZ (show decide _=true from Ak rfl) ⟨_,rfl,_,rfl,qZ (show (!false)=true from rfl) ?_⟩;exact Zz (kd:=3) hm hB pp q hx hw di3 sy3 (fun z=>absurd z O0) ⟨O0,O0,fun _=>O0⟩
 have e3':kd=2→may=true:=fun e=>by
  cases may with
  | true=>rfl
  | false=>exact absurd ⟨e,rfl⟩ e3
 refine qk6 (fun hc hB=>⟨_,rfl,_,rfl,qR (show (!may)=false by rw [e3' (V.int.inj (Ay hc))];rfl) hB⟩) ?_
 exact Zz hm hB pp q hx hw di3 sy3 e3' hkd
def V4:TS:=qX (tOp (rI (fun x j=>0<j) fun i j=>V.int (i % j)) (qg 4) (tC (V.int 5))) (qv 4)
def VM (K:Frag) (n:Nat) (B:Sp):TS:=qG (zz (tOr (qI (tOp (rI0 fun i j=>V.bl (decide (i<j))) (qg 1) (tC (V.int 2)))) (qI (tOp (rI0 fun i j=>V.bl (decide (i<j))) (VO (qg 0) (tC (V.str "left"))) (tC (V.int 0))))) V4 zg) (qam K (n - 1) B)
def VL (K:Frag) (n:Nat) (B:Sp):TS:=qG (qX (tOp (rIx K) (Jv (qd (tC (V.str "great")) (qd (tC (V.str "kind")) (qd (tC (V.str "any")) (qd (tC (V.str "unset")) (qd (qg 5) qo)))))) (tOp (rI (fun x j=>0<j) fun i j=>V.int (i % j)) (tOp (rI qdf fun i j=>V.int (i / j)) (qg 3) (tC (V.int 100))) (tC (V.int 5)))) (qv 6)) (VM K n B)
def VJ (K:Frag) (n:Nat) (B:Sp):TS:=qG (qX (tOp (rIx K) (VO (qg 0) (tC (V.str "names"))) (tOp (rI (fun x j=>0<j) fun i j=>V.int (i % j)) (tOp (rI qdf fun i j=>V.int (i / j)) (qg 3) (tC (V.int 10))) (tCB (fun xs H Q=>∃ x n,xs=[x]∧v9 K x H n∧Q (V.int ↑n) H) (qd (VO (qg 0) (tC (V.str "names"))) qo)))) (qv 5)) (VL K n B)
def VI (K:Frag) (n:Nat) (B:Sp):TS:=qG (qX (tOp (rI (fun x j=>0<j) fun i j=>V.int (i % j)) (qg 3) (tC (V.int 10))) (qv 4)) (VJ K n B)
def VH (K:Frag) (n:Nat) (B:Sp):TS:=qG (YJ (qg 0) (tC (V.str "left")) (tOp (rI0 fun i j=>V.int (i - j)) (VO (qg 0) (tC (V.str "left"))) (tC (V.int 1)))) (VI K n B)
theorem JR (F:Fun K "_law_statement" "_law_statement" zV f fd) (c:Cs K mg ad) (n lt lb:Nat) (hlt:lt≤4*n+4) (hlb:lb≤4*n+4) (B:Sp) (hB:0<n→B=spBdy K (n - 1)) (d_law_next:Def P w K mg base 2 "_law_next" ["_law_state"] (spNext K))
  (d_law_term:Def P w K mg base lt "_law_term" ["_law_state","_law_deep"] (spTrm K (n - 1))) (d_law_body:Def P w K mg base lb "_law_body" ["_law_state","_law_deep","_law_may_hand"] B):FnOk P w K mg base CX0 (4*n+5) f fd ["_law_state","_law_deep","_law_may_hand"] (spStm K n):=by
 refine F.ok (k:=4*n+4) qU (fun vs H Q E h=>?_) (fun cdv A outer s H vs Q E hr h=>?_)
 ·obtain ⟨st,a,nm,ns,names,k,l,deep,may,rfl,_⟩:=h;rfl
 obtain ⟨st,a,nm,ns,names,k,l,deep,may,rfl,di,pp,q⟩:=h;have hu:=yz hr;refine ⟨_,(qf (pst 3 qU.nd (pdf d_law_next (qb (pv 0) qc)))
   (qf (vP hu (pv 0) qp (qu zu (jp hu (pv 0) qp (fun _ _=>rfl)) qh) rfl)
   (qf (pst 4 qU.nd (qu zc (pv 3) qh))
   (qf (pst 5 qU.nd (pix K (jp hu (pv 0) qp (fun _ _=>rfl)) (qu zc (qu jq (pv 3) qh) (qz (jw (K:=K) rfl) (by rfl) c.len_ zJ (qb (jp hu (pv 0) qp (fun _ _=>rfl)) qc)))))
   (qf (pst 6 qU.nd (pix K (zj (qb qp (qb qp (qb qp (qb qp (qb (pv 5) qc)))))) (qu zc (qu jq (pv 3) qh) qh)))
   (qf (qN (PW.pt (ve (qt Vd (pv 1) qh (qD _)) (JK (qt Vd (jp hu (pv 0) qp (fun _ _=>rfl)) qh (qD _))))) (qi (pst 4 qU.nd (qu zc (pv 4) qh))) qB)
   (qf (qN (PW.pt (J4 (qt zy (pv 4) qh (qD _)) (JB (jM (zZ (pv 2)))))) (qi (pst 4 qU.nd qh)) qB)
   (qf (qN (qt Vd (pv 4) qh (qD _)) (qi (qy (qO (qb (pix K (zj (qb qp (qb qp qc))) (pv 4)) (qb (pv 5) (qb (pdf d_law_term (qb (pv 0) (qb (qu zu (pv 1) qh) qc))) qc)))))) qB)
   (qf (qN (qt Vd (pv 4) qh (qD _)) (qi (qy (qO (qb (pix K (zj (qb qp (qb qp (qb qp qc)))) (qu zu (pv 4) qh)) (qb (pdf d_law_term (qb (pv 0) (qb (qu zu (pv 1) qh) qc))) qc))))) qB)
   (qf (qN (qt zy (pv 4) qh (qD _)) (qi (qy (qO (qb qp (qb (pix K (zj (qb (pv 6) (qb qp qc))) (zk qda (by rfl) c.int_ qfl (qb (jF zy (pv 6) qp (qD _)) qc))) (qb (pdf d_law_term (qb (pv 0) (qb (qu zu (pv 1) qh) qc))) qc)))))) qB)
   (qf (qN (qt zy (pv 4) qh (qD _)) (qi (qy (qO (qb qp (qb (pdf d_law_term (qb (pv 0) (qb (qu zu (pv 1) qh) qc))) (qb (pdf d_law_body (qb (pv 0) (qb (qu zu (pv 1) qh) (qb (pv 2) qc)))) qc)))))) qB)
   (qf (qN (qt zy (pv 4) qh (qD _)) (qf (pst 7 qU.nd (pdf d_law_term (qb (pv 0) (qb (qu zu (pv 1) qh) qc))))
   (qi (qy (qO (qb qp (qb (pv 7) (qb (pdf d_law_body (qb (pv 0) (qb (qu zu (pv 1) qh) (qb (pv 2) qc)))) (qb (pdf d_law_body (qb (pv 0) (qb (qu zu (pv 1) qh) (qb (pv 2) qc)))) qc)))))))) qB)
   (qf (WN (i:=8) qU.nd rfl (by first | exact Or.inl rfl | exact Or.inr rfl) (sc:=qj zV) (NX:=["_law_state","_law_deep","_law_may_hand","_law_number_here","_law_kind","_law_name","_law_word","_law_test","_law_bodies"]) (N:=["_law_turn","_law_state","_law_may_hand","_law_deep"]) (js:=[none,some 0,some 2,some 1]) (jj rfl c.range_ (qb qh qc)) (fun _ _ _ _ _=>(zn (i:=0) (show (["_law_turn","_law_state","_law_may_hand","_law_deep"]:List Str).Nodup from ∅) rfl (Or.inl rfl))) (fun _ _ _ _ _=>jE) (fun _ _ _ _ _=>(pdf d_law_body (qb (pv 1) (qb (qu zu (pv 3) qh) (qb (pv 2) qc))))) (zF rfl) ⟨∅,rfl,∅,∅,rfl,∅⟩)
   (qi (qy (qO (qb qp (qb (pix K (pv 8) qh) (qb (pv 6) (qb (pv 5) (qb (pix K (pv 8) qh) (qb (pix K (pv 8) qh) qc)))))))))))))))))))))),?_⟩
 show qG (qX (qE (spNext K) [] E0 (qd (qg 0) qo)) (qv 3)) (VH K n B) _ _ _;clear hu;refine ⟨_,rfl,st,a,nm,ns,k,l,rfl,di.dict,di.cells,pp.2.1,(by have:=pp.2.2;omega),fun z H1 hz0 hz1 e1=>?_⟩
 have di1:DIn K H1 st a nm ns names (k+1) l:=e1▸di.put;have sy1:Stay st H H1:=e1▸Stay.put di.dict;clear e1;refine ⟨_,rfl,_,_,rfl,(by rw [← vN a (k+1) l nm];exact j9.k (k:=Sum.inr "left") di1.dict),_,_,rfl,rfl,?_⟩
 refine ⟨_,rfl,st,upd H1 st (.dK (stK a (k+1) (l - 1) nm)),rfl,(by rw [← W1 a (k+1) l nm (l - 1)];exact YD.k (k:=Sum.inr "left") di1.dict (C4 (show 4≤1000 from O0) O0)),?_⟩
 have di2:DIn K (upd H1 st (.dK (stK a (k+1) (l - 1) nm))) st a nm ns names (k+1) (l - 1):=di1.put;have sy2:Stay st H (upd H1 st (.dK (stK a (k+1) (l - 1) nm))):=sy1.trans (Stay.put di1.dict);generalize upd H1 st (.dK (stK a (k+1) (l - 1) nm))=H2 at di2 sy2 ⊢;have gL:∀ H',qw H2 H'→j9 H' st (.str "left") (some (.int (l - 1))):=fun H' g=>by rw [← vN a (k+1) (l - 1) nm];exact j9.k (k:=Sum.inr "left") (di2.same g).dict
 have gN:j9 H2 st (.str "names") (some (.ref nm)):=by rw [← Zq a (k+1) (l - 1) nm];exact j9.k (k:=Sum.inr "names") di2.dict
 have hnl:names.length=8:=di.good.len;obtain ⟨v,hv,x,rfl,hx⟩:=V1 (xs:=names.map V.str) (i:=z / 10 % (((names.map V.str).length:Nat):Int)) (p:=fun v=>∃ x,v= .str x∧Tre.qY x=true∧x∈names) (fun y hy=>by
  obtain ⟨x,hx,rfl⟩:=By.mp hy;exact ⟨x,rfl,di.good.good x hx,hx⟩) (Bf _ (by rw [Ab,hnl];decide)) (A7 _ (by rw [Ab,hnl];decide))
 refine ⟨_,rfl,_,_,rfl,rfl,(show (0:Int)<10 from O0),?_⟩;refine ⟨_,rfl,st,_,rfl,gN,_,rfl,_,_,rfl,rfl,⟨O0,O0⟩,_,rfl,st,_,rfl,gN,_,_,rfl,.inl ⟨_,di2.nms,rfl⟩,_,_,rfl,rfl,(show (0:Int)<(((names.map V.str).length:Nat):Int) by rw [Ab,hnl];decide),.inl ⟨_,_,_,_,rfl,rfl,di2.nms,hv,?_⟩⟩
 obtain ⟨v,hv2,wd,rfl,hw⟩:=V1 (xs:=[V.str "great",V.str "kind",V.str "any",V.str "unset",V.str x]) (i:=z / 100 % 5) (p:=fun v=>∃ x,v= .str x∧Tre.qY x=true∧x∈Tre.vh++names) (fun y hy=>by
  simp only [Ap,Bg,or_false] at hy;rcases hy with rfl | rfl | rfl | rfl | rfl
  ·exact ⟨_,rfl,∅,B7 _ ∅⟩
  ·exact ⟨_,rfl,∅,B7 _ ∅⟩
  ·exact ⟨_,rfl,∅,B7 _ ∅⟩
  ·exact ⟨_,rfl,∅,B7 _ ∅⟩
  ·exact ⟨_,rfl,hx.1,Bh _ hx.2⟩) (Bf _ O0) (A7 _ O0)
 refine ⟨_,rfl,(O0:5≤sizeLine),fun p0 hp0=>⟨_,rfl,_,_,rfl,rfl,⟨O0,O0⟩,_,_,rfl,rfl,(show (0:Int)<5 from O0),ixL (SqL.of upd_same) hv2 ?_⟩⟩;have gp0:=qe hp0 (.lst [V.str "great",V.str "kind",V.str "any",V.str "unset",V.str x]);have gL':=gL _ gp0;have di3:=di2.same gp0;have sy3:=sy2.then gp0;clear gL gN hv hv2 di2 sy2 di1 sy1;dsimp only;generalize upd H2 p0 (.lst [V.str "great",V.str "kind",V.str "any",V.str "unset",V.str x])=H3 at gL' di3 sy3 ⊢;refine ⟨_,rfl,_,_,rfl,rfl,_,rfl,?_⟩;have kz0:=Bf z (show (10:Int)≠0 from O0);have kz1:=A7 z (show (0:Int)<10 from O0);have km0:=Bf (z % 10) (show (5:Int)≠0 from O0);have km1:=A7 (z % 10) (show (0:Int)<5 from O0);refine v1 (fun c1=>vB ⟨_,rfl,_,_,rfl,rfl,(show (0:Int)<5 from O0),?g1⟩) (fun c1=>⟨_,rfl,st,_,rfl,gL',_,_,rfl,rfl,_,rfl,v1 (fun c2=>⟨_,rfl,_,_,rfl,rfl,(show (0:Int)<5 from O0),?g2⟩) (fun c2=>?g3)⟩)
 case g1=>
  have hkd:0≤z % 10 % 5∧z % 10 % 5<10∧(deep<2∨l - 1<0→z % 10 % 5<5):=⟨km0,⋯,fun _=>km1⟩;exact WZ (m:=n - 1) ⟨⋯,⋯⟩ hB pp q hx hw di3 sy3 hkd
 case g2=>
  have hkd:0≤z % 10 % 5∧z % 10 % 5<10∧(deep<2∨l - 1<0→z % 10 % 5<5):=⟨km0,⋯,fun _=>km1⟩;exact WZ (m:=n - 1) ⟨⋯,⋯⟩ hB pp q hx hw di3 sy3 hkd
 case g3=>
  have c1':¬ deep<2:=by simpa using c1
  have c2':¬ l - 1<0:=by simpa using c2
  have hkd:0≤z % 10∧z % 10<10∧(deep<2∨l - 1<0→z % 10<5):=⟨kz0,kz1,fun h=>⋯⟩;exact WZ (m:=n - 1) ⟨⋯,⋯⟩ hB pp q hx hw di3 sy3 hkd
end
end Mine
namespace L2
open PySem PySem.Spec PyProof.Rows
section
variable {K:Frag} {H:Hp}
theorem Rd.put {p b:Addr} {zs:List V} {o o':HO} (hp:H p=some (.lst zs)) (hd:∀ l,o≠ .lst l) (h:Rd H b o):Rd (upd H p o') b o:=by
 rcases h with h | ⟨ob,h⟩
 ·refine .inl ?_;rw [qm fun z=>by rw [z,hp] at h;exact hd _ (Be h).symm]
  exact h
 ·refine .inr ⟨ob,?_⟩;rw [qm fun z=>by rw [z,hp] at h;cases h]
  exact h
theorem SqT.put {p b:Addr} {zs xs:List V} {o':HO} (hp:H p=some (.lst zs)) (h:SqT K H b xs):SqT K (upd H p o') b xs:=by
 rcases h with h | h
 ·exact .inl (Rd.put hp (fun l z=>by cases z) h)
 ·exact .inr h
mutual
theorem Rep.tups {H':Hp} (g:∀ {a:Addr} {xs:List V},SqT K H a xs→SqT K H' a xs):∀ {x:V} {d:PyData},Rep K H x d→Tre.noL d=true→Rep K H' x d
 | _,_,.non,_=> .non
 | _,_,.bl b,_=> .bl b
 | _,_,.int i,_=> .int i
 | _,_,.str x,_=> .str x
 | _,_,.lst h r,n=>by cases n
 | _,_,.tup h r,n=> .tup (g h) (Reps.tups g r (by rw [Tre.noL] at n;exact n))
theorem Reps.tups {H':Hp} (g:∀ {a:Addr} {xs:List V},SqT K H a xs→SqT K H' a xs):∀ {xs:List V} {ds:List PyData},Reps K H xs ds→Tre.zO ds=true→Reps K H' xs ds
 | _,_,.nil,_=> .nil
 | _,_,.cons h t,n=>by
  rw [Tre.zO,Ae] at n;exact .cons (Rep.tups g h n.1) (Reps.tups g t n.2)
end
theorem Rep.put {p:Addr} {zs:List V} {o':HO} (hp:H p=some (.lst zs)) {x:V} {d:PyData} (h:Rep K H x d) (n:Tre.noL d=true):Rep K (upd H p o') x d:=h.tups (fun h=>h.put hp) n
theorem Reps.put {p:Addr} {zs:List V} {o':HO} (hp:H p=some (.lst zs)) {xs:List V} {ds:List PyData} (h:Reps K H xs ds) (n:Tre.zO ds=true):Reps K (upd H p o') xs ds:=h.tups (fun h=>h.put hp) n
end
end L2
namespace Mine
open PySem L2
section
variable {P:Program} {w:World} {K:Frag} {mg:Str→Option Value} {base:Heap} {f:Addr} {fd:FuncData} {ad:Ad}
structure Known (K:Frag) (mg:Str→Option Value) (x:Str) (ps:List Str) (f:Addr) (fd:FuncData):Prop where
 binds:Jd K fd ps []
 keep:PySem.W.keepIn K (.ref f)=true
 name:mg x=some (.ref f)
theorem Known.out {x:Str} {ps:List Str} {lv:Nat} {sp:Sp} (k:Known K mg x ps f fd) (F:FnOk P w K mg base CX0 lv f fd ps sp):Def P w K mg base lv x ps sp:=⟨f,fd,F,k.binds,k.keep,k.name⟩
theorem XC {ps:List Str} {lv:Nat}:FnOk P w K mg base CX0 lv f fd ps (fun _ _ _ _=>False):=⟨fun _ _ _ _ h=>h.elim,fun _ _ _ _ _ _ _ _ _ _ _ _ _ h=>h.elim⟩
theorem Def.up {x:Str} {ps:List Str} {sp:Sp} {j k:Nat} (d:Def P w K mg base j x ps sp) (h:j≤k):Def P w K mg base k x ps sp:=by
 obtain ⟨f,fd,F,r⟩:=d.ex;exact ⟨f,fd,F.mono h,r⟩
theorem drawn {fT fS fB:Addr} {dT dS dB:FuncData} (FT:Fun K "_law_term" "_law_term" Jo fT dT) (FS:Fun K "_law_statement" "_law_statement" zV fS dS) (FB:Fun K "_law_body" "_law_body" Jp fB dB) (kT:Known K mg "_law_term" ["_law_state","_law_deep"] fT dT)
  (kS:Known K mg "_law_statement" ["_law_state","_law_deep","_law_may_hand"] fS dS) (kB:Known K mg "_law_body" ["_law_state","_law_deep","_law_may_hand"] fB dB) (c:Cs K mg ad) (d_law_next:Def P w K mg base 2 "_law_next" ["_law_state"] (spNext K)) (d_law_number:Def P w K mg base 1 "_law_number" ["_law_more"] spNumber):
  ∀ n:Nat,Def P w K mg base (4*n+4) "_law_term" ["_law_state","_law_deep"] (spTrm K n)∧Def P w K mg base (4*n+5) "_law_statement" ["_law_state","_law_deep","_law_may_hand"] (spStm K n)∧Def P w K mg base (4*n+6) "_law_body" ["_law_state","_law_deep","_law_may_hand"] (spBdy K n)
 | 0=>by
  have t:=kT.out (Wc FT c 0 _ _ (fun h=>absurd h O0) (fun h=>absurd h O0) d_law_next d_law_number (kT.out XC) (kB.out XC));have s:=kS.out (JR FS c 0 4 4 O0 O0 _ (fun h=>absurd h O0) d_law_next t (kB.out XC));exact ⟨t,s,kB.out (Wd FB c 0 d_law_next s)⟩
 | n+1=>by
  obtain ⟨t0,s0,b0⟩:=drawn FT FS FB kT kS kB c d_law_next d_law_number n;have t:=kT.out (Wc FT c (n+1) _ _ (fun _=>rfl) (fun _=>rfl) d_law_next d_law_number (Def.up t0 ⋯) (Def.up b0 ⋯));have s:=kS.out (JR FS c (n+1) (4*n+4) (4*n+6) ⋯ ⋯ _ (fun _=>rfl) d_law_next t0 b0);exact ⟨t,s,kB.out (Wd FB c (n+1) d_law_next s)⟩
theorem qeu (a:Addr) (k l:Int) (nm:Addr):Vx [] (stK a k l nm)=stK a k l nm:=by
 have new:∀ (kvs:List (Key×V)) (x:Key) (v:V),(∀ kv∈kvs,¬ kv.1=x)→je kvs x v=kvs++[(x,v)]:=fun kvs x v h=>by
  unfold je;rw [if_neg];intro z;obtain ⟨kv,hkv,e⟩:=De.mp z;exact h kv hkv (Ay e)
 unfold Vx stK;rw [B3,B3,B3,B3,List.foldl_nil];have e1:je ([]:List (Key×V)) (Sum.inr "cells") (V.ref a)=[((Sum.inr "cells":Key),V.ref a)]:=new [] (Sum.inr "cells") (V.ref a) fun kv h=>nomatch h;have e2:je [((Sum.inr "cells":Key),V.ref a)] (Sum.inr "at") (V.int k)=[((Sum.inr "cells":Key),V.ref a),((Sum.inr "at":Key),V.int k)]:=new [((Sum.inr "cells":Key),V.ref a)] (Sum.inr "at") (V.int k) fun kv h=>by
  cases Az.mp h;exact qja
 have e3:je [((Sum.inr "cells":Key),V.ref a),((Sum.inr "at":Key),V.int k)] (Sum.inr "left") (V.int l)=[((Sum.inr "cells":Key),V.ref a),((Sum.inr "at":Key),V.int k),((Sum.inr "left":Key),V.int l)]:=new [((Sum.inr "cells":Key),V.ref a),((Sum.inr "at":Key),V.int k)] (Sum.inr "left") (V.int l) fun kv h=>by
  simp only [Ap,Bg,or_false] at h;rcases h with rfl | rfl
  ·exact qi9
  ·exact qjb
 have e4:je [((Sum.inr "cells":Key),V.ref a),((Sum.inr "at":Key),V.int k),((Sum.inr "left":Key),V.int l)] (Sum.inr "names") (V.ref nm)=[((Sum.inr "cells":Key),V.ref a),((Sum.inr "at":Key),V.int k),((Sum.inr "left":Key),V.int l),((Sum.inr "names":Key),V.ref nm)]:=new [((Sum.inr "cells":Key),V.ref a),((Sum.inr "at":Key),V.int k),((Sum.inr "left":Key),V.int l)] (Sum.inr "names") (V.ref nm) fun kv h=>by
  simp only [Ap,Bg,or_false] at h;rcases h with rfl | rfl | rfl
  ·exact qk2
  ·exact qk3
  ·exact qk1
 rw [e1,e2,e3,e4]
theorem qgz {A B:Prop} (h:if false=true then A else B):B:=by simpa using h
theorem qcz {names:List Str} (g:Nms names) {hi:Int} (h0:0≤hi) (h1:hi≤4):∃ cut:List Str,v7 (names.map V.str) none (some hi)=cut.map V.str∧Tre.areNames (.tuple (cut.map PyData.str))=true∧∀ x∈cut,Tre.qY x=true∧x∈names:=by
 refine ⟨names.take hi.toNat,?_,?_,fun x hx=>⟨g.good x (Ct hx),Ct hx⟩⟩
 ·rw [yO _ _ hi.toNat ⋯,E6]
 ·have hl:(names.take hi.toNat).length≤4:=by
   have:=Bv hi.toNat names;omega
  have hsub:∀ x∈names.take hi.toNat,Tre.qY x=true:=fun x hx=>g.good x (Ct hx);have hnd:(names.take hi.toNat).Nodup:=g.nd.take;generalize names.take hi.toNat=cut at hl hsub hnd;simp only [Tre.areNames];rw [Ab,Ak hl,Cm,Bu,Ae];refine ⟨?_,Ak ?_⟩
  ·rw [Dx];exact A3.mpr fun x hx=>hsub x hx
  ·have e:(Tre.txt ∘ PyData.str)=id:=rfl;rw [e,Eu];exact hnd
theorem qg2 {ds:List PyData} {hands:Bool} {s t:Nat} (h:Tre.Ptl (ds.map fun x=>(x,("statement":Str))) hands s t):Tre.zO ds=true:=by
 have q:=h.tr;rw [Bu] at q;have e:((fun x:PyData×Str=>x.1) ∘ fun x:PyData=>(x,("statement":Str)))=id:=rfl;rw [e,Eu] at q;exact (Tre.wv q.gd).1
inductive spProg (K:Frag) (vs:List V) (H:Hp) (Q:VK) (E':XK):Prop
 | mk:∀ (a:Addr) (ns:List Int) (l0:Int),(0≤l0)→(l0≤40)→(vs=[.ref a,.int l0])→(SqL K H a (ns.map V.int))→(∀ H' x d s t (names:List Str),qw H H'→Rep K H' x d→names.length=8→Tre.Ft names d→Tre.Pt d "program" false s t→s≤300→t≤12→Q x H')→spProg K vs H Q E'
inductive Iv_TreR_0 (K:W.Frag) (H:Hp) (a:Addr) (ns:List Int) (l0:Int) (names:List Str) (nm:Addr) (st:Addr) (pb:Addr) (m:Nat) (σ:St) (H':Hp):Prop
 | mk:(H' nm=some (.lst (names.map V.str)))→∀ ys ds k' l' s t,(σ=[some (.ref a),some (.int l0),some (.ref nm),some (.ref st),some (.ref pb)])→(qw H H')→(DIn K H' st a nm ns names k' l')→(H' pb=some (.lst ys))→(Reps K H' ys ds)→(Tre.Fts names ds)→(Tre.Ptl (ds.map fun x=>(x,("statement":Str))) true s t)→(Bud.WI l0 ds.length m s t k' l')→Iv_TreR_0 K H a ns l0 names nm st pb m σ H'
def WB (K:Frag):TS:=zQ (tBM K "list" z9 (qg 4) (qd (qE (spStm K 7) [] E0 (qd (qg 3) (qd (tOp zW (tC (V.int 2)) (tOp (rI (fun x j=>0<j) fun i j=>V.int (i % j)) (qE (spNext K) [] E0 (qd (qg 3) qo)) (tC (V.int 6)))) (qd (tC (V.bl true)) qo)))) qo))
def WA (K:Frag):TS:=jb (jl (qd (tC (V.str "main")) (qd (tCB (fun xs H Q=>∃ p ys,xs=[V.ref p]∧((SqL K H p ys∧∀ (l:Addr),H l=none→Q (V.ref l) (upd H l (HO.tup ys)))∨SqT K H p ys∧Q (V.ref p) H)) (qd (tSl (QI K) (qg 2) VN (W0 (tOp (rI (fun x j=>0<j) fun i j=>V.int (i % j)) (qE (spCell K) [] E0 (qd (qg 0) (qd (tC (V.int 2)) qo))) (tC (V.int 5))))) qo)) (qd (tCB (fun xs H Q=>∃ p ys,xs=[V.ref p]∧((SqL K H p ys∧∀ (l:Addr),H l=none→Q (V.ref l) (upd H l (HO.tup ys)))∨SqT K H p ys∧Q (V.ref p) H)) (qd (qg 4) qo)) qo))))
def Wz (K:Frag):TS:=qG (Vi (VP (qI (tOp (rI0 fun i j=>V.bl (decide (j<i))) (VO (qg 3) (tC (V.str "left"))) (tC (V.int 0)))) (qI (tOp (rI0 fun i j=>V.bl (decide (i<j))) (tCB (fun xs H Q=>∃ x n,xs=[x]∧v9 K x H n∧Q (V.int ↑n) H) (qd (qg 4) qo)) (tOp zW (tC (V.int 1)) (tOp (rI (fun x j=>0<j) fun i j=>V.int (i % j)) (qE (spCell K) [] E0 (qd (qg 0) (qd (tC (V.int 1)) qo))) (tC (V.int 6))))))) (WB K)) (WA K)
def Wy (K:Frag):TS:=qG (qX (Jv qo) (qv 4)) (Wz K)
def Wx (K:Frag):TS:=qG (qX (qhr [(tC (V.str "cells"),qg 0),(tC (V.str "at"),tC (V.int 0)),(tC (V.str "left"),qg 1),(tC (V.str "names"),qg 2)]) (qv 3)) (Wy K)
theorem yg (F:Fun K "_law_program" "_law_program" JH f fd) (c:Cs K mg ad) (d_law_cell_at:Def P w K mg base 1 "_law_cell_at" ["_law_script","_law_k"] (spCell K)) (d_law_names:Def P w K mg base 1 "_law_names" ["_law_cell","_law_many"] spNames) (d_law_next:Def P w K mg base 2 "_law_next" ["_law_state"] (spNext K))
  (d_law_statement:Def P w K mg base 33 "_law_statement" ["_law_state","_law_deep","_law_may_hand"] (spStm K 7)):FnOk P w K mg base CX0 34 f fd ["_law_script","_law_most"] (spProg K):=by
 refine F.ok jA (fun vs H Q E h=>?_) (fun cdv A outer s H vs Q E hr h=>?_)
 ·obtain ⟨a,ns,l0,_,_,rfl,_⟩:=h;rfl
 obtain ⟨a,ns,l0,hl00,hl40,rfl,hS,q⟩:=h;have hu:=yz hr;refine ⟨_,(qf (pst 2 jA.nd (pdf d_law_names (qb (qu zc (qu Vu (pdf d_law_cell_at (qb (pv 0) (qb qh qc))) qh) qh) (qb qh qc))))
   (qf (pst 3 jA.nd (qgv (VT qp (pv 0) (VT qp qh (VT qp (pv 1) (VT qp (pv 2) qgq)))) rfl rfl (by intro z;cases z) O0))
   (qf (pst 4 jA.nd (zj qc))
   (qf (Jr Bt (PW.pt (J4 (qt qaw (jp hu (pv 3) qp (fun _ _=>rfl)) qh (qD _)) (JB (qt Vd (qz (jw (K:=K) rfl) (by rfl) c.len_ zJ (qb (pv 4) qc)) (qu zb qh (qu zc (pdf d_law_cell_at (qb (pv 0) (qb qh qc))) qh)) (qD _))))) (qi (za (JN (K:=K) rfl A5 B0 Bz zX (pv 4) (qb (pdf d_law_statement (qb (pv 3) (qb (qu zb qh (qu zc (pdf d_law_next (qb (pv 3) qc)) qh)) (qb jZ qc)))) qc)))))
   (qi (qy (qO (qb qp (qb (zk (Jw (K:=K) rfl) (by rfl) c.tuple_ zH (qb (jY (Zr (K:=K) rfl) (pv 2) J5 (Jg (qu zc (pdf d_law_cell_at (qb (pv 0) (qb qh qc))) qh))) qc)) (qb (zk (Jw (K:=K) rfl) (by rfl) c.tuple_ zH (qb (pv 4) qc)) qc)))))))))),?_⟩
 show qG (qX (qE spNames [] E0 (qd (tOp (rI (fun x j=>0<j) fun i j=>V.int (i % j)) (tOp (rI qfu fun i j=>V.int (i*j)) (qE (spCell K) [] E0 (qd (qg 0) (qd (tC (V.int 0)) qo))) (tC (V.int 48271))) (tC (V.int 2147483647))) (qd (tC (V.int 8)) qo))) (qv 2)) (Wx K) _ _ _;clear hu;refine ⟨_,rfl,a,ns,_,rfl,hS,O0,fun i0=>⟨_,_,rfl,rfl,.inr ⟨O0,O0⟩,_,_,rfl,rfl,(show (0:Int)<2147483647 from O0),?_⟩⟩;refine ⟨_,rfl,Bf _ O0,A7 _ O0,fun names nm H1 good g1 hnm=>?_⟩;refine fun st hst=>⟨_,rfl,_,rfl,_,rfl,upd_same,stK a 0 l0 nm,rfl,(O0:4≤15),?_⟩;rw [qeu];have u2:upd (upd H1 st (.dK [])) st (.dK (stK a 0 l0 nm))=upd H1 st (.dK (stK a 0 l0 nm)):=by
  funext b;unfold upd;split <;> rfl
 rw [u2];have gst:=qe hst (.dK (stK a 0 l0 nm));have di0:DIn K (upd H1 st (.dK (stK a 0 l0 nm))) st a nm ns names 0 l0:=⟨upd_same,gst.seq (g1.seq hS),gst.seq (SqL.of hnm),good⟩;have hst0:H st=none:=g1.free hst;have g2:=g1.trans gst;have hn2:=gst _ _ hnm;have nst:nm≠st:=fun z=>by rw [z,hst] at hnm;cases hnm
 generalize upd H1 st (.dK (stK a 0 l0 nm))=H2 at di0 g2 hn2 ⊢;refine ⟨(O0:0≤sizeLine),fun pb hpb=>?_⟩;have hpb0:H pb=none:=g2.free hpb;have gpb:=qe hpb (.lst []);have nsp:pb≠st:=fun z=>by rw [z,di0.dict] at hpb;cases hpb
 have npb:nm≠pb:=fun z=>by rw [z,hpb] at hn2;cases hn2
 refine ⟨(Iv_TreR_0 K H a ns l0 names nm st pb),⟨6,gpb _ _ hn2,[],[],0,l0,0,0,rfl,g2.trans gpb,di0.same gpb,upd_same,.nil,.nil,.nil,.nil hl00 hl40⟩,?_⟩;rintro m σ H3 ⟨hn3,ys,ds,k',l',s,t,rfl,g3,di3,hb3,rs3,ff3,pt3,wi⟩;have gL:j9 H3 st (.str "left") (some (.int l')):=by rw [← vN a k' l' nm];exact j9.k (k:=Sum.inr "left") di3.dict
 have hln:=rs3.length;refine ⟨_,rfl,st,_,rfl,gL,_,_,rfl,rfl,_,rfl,?_⟩;refine qk6 (fun c1 hB=>?_) ?_
 ·have c1':0<l':=Ay c1;refine ⟨_,rfl,_,_,rfl,.inl ⟨_,SqL.of hb3,rfl⟩,_,rfl,a,ns,_,rfl,di3.cells,O0,fun i1=>⟨_,_,rfl,rfl,(show (0:Int)<6 from O0),.inl ⟨_,_,rfl,rfl,_,_,rfl,rfl,_,rfl,v1 (fun c2=>?_) (fun c2=>qgz hB)⟩⟩⟩;have c2':((ys.length:Nat):Int)<1+i1 % 6:=Ay c2;have c3:=A7 i1 (show (0:Int)<6 from O0);refine ⟨_,fun σ' H' h=>h,?_⟩;refine ⟨_,rfl,.inl ⟨rfl,_,SqL.of hb3⟩,v8 ⟨_,rfl,_,rfl,st,a,nm,ns,k',l',rfl,di3.dict,di3.cells,wi.2.2.2.1,(by have:=wi.2.2.2;omega),fun z H4 hz0 hz1 e4=>?_⟩⟩
  have di4:DIn K H4 st a nm ns names (k'+1) l':=e4▸di3.put;have sy4:Stay st H3 H4:=e4▸Stay.put di3.dict;clear e4;have z0:=Bf z (show (6:Int)≠0 from O0);have z1:=A7 z (show (0:Int)<6 from O0);refine ⟨_,_,rfl,rfl,(show (0:Int)<6 from O0),.inl ⟨_,_,rfl,rfl,qh3 di4 (wi.pre (show 2+z % 6≤7 from ⋯)) fun H5 x d s2 t2 k2 l2 sy5 di5 rx fx px b2=>?_⟩⟩;have sy:=sy4.trans sy5;have hb5:H5 pb=some (.lst ys):=sy.rest _ _ nsp hb3;refine ⟨pb,_,_,rfl,rfl,hb5,by have:(10:Nat)<sizeLine:=O0;omega,?_⟩
  have nx:Tre.noL d=true:=(Tre.Tr.gd px.tr).nol;have sm:qw H (upd H5 pb (.lst (ys++[x]))):=fun b o e=>by
   have nb:b≠pb:=fun z=>by rw [z,hpb0] at e;cases e
   have nt:b≠st:=fun z=>by rw [z,hst0] at e;cases e
   rw [qm nb];exact sy.rest b o nt (g3 b o e)
  have hn5:upd H5 pb (.lst (ys++[x])) nm=some (.lst (names.map V.str)):=by
   rw [qm npb];exact sy.rest _ _ nst hn3
  have wj:Bud.WI l0 (ds++[d]).length (m - 1) (s+s2) (max t t2) k2 l2:=by
   rw [Ac];exact wi.snoc c1' ⋯ b2
  refine ⟨m - 1,by have:=wi.1;omega,hn5,ys++[x],ds++[d],k2,l2,s+s2,max t t2,rfl,sm,⟨by rw [qm (Ne.symm nsp)];exact di5.dict,sm.seq hS,SqL.of hn5,good⟩,upd_same,?_,ff3.snoc fx,?_,wj⟩
  ·exact Reps.put hb5 ((rs3.stay sy).append (.cons rx .nil)) (qg2 (ds:=ds++[d]) (by rw [An];exact pt3.append (Tre.jG px)))
  ·rw [An];exact pt3.append (Tre.jG px)
 ·obtain ⟨hm3,hs3,ht3,hk3,hkl3,hl3⟩:=wi;refine qR rfl ?_;refine ⟨_,rfl,_,rfl,a,ns,_,rfl,di3.cells,O0,fun i2=>⟨_,_,rfl,rfl,(show (0:Int)<5 from O0),_,rfl,.inl ⟨nm,_,rfl,di3.nms,fun p2 hp2=>⟨p2,_,rfl,.inl ⟨SqL.of upd_same,fun p3 hp3=>?_⟩⟩⟩⟩⟩;have m0:=Bf i2 (show (5:Int)≠0 from O0);have m1:=A7 i2 (show (0:Int)<5 from O0);obtain ⟨cut,ecut,hcut,hgood⟩:=qcz good m0 ⋯;dsimp only at hp3 ⊢;rw [ecut] at hp3 ⊢;have g4:=qe hp2 (.lst (cut.map V.str));have g5:=qe hp3 (.tup (cut.map V.str));have h3:upd (upd H3 p2 (.lst (cut.map V.str))) p3 (.tup (cut.map V.str)) p3=some (.tup (cut.map V.str)):=upd_same;have g45:=g4.trans g5;generalize upd (upd H3 p2 (.lst (cut.map V.str))) p3 (.tup (cut.map V.str))=H4 at h3 g45 ⊢;refine ⟨_,rfl,pb,ys,rfl,.inl ⟨SqL.of (g45 _ _ hb3),fun p4 hp4=>⟨(O0:3≤sizeLine),fun p5 hp5=>?_⟩⟩⟩;have ga:=qe hp4 (.tup ys);have gb:=qe hp5 (.tup [.str "main",.ref p3,.ref p4]);have gc:=ga.trans gb;have fcut:Tre.Fts names (cut.map PyData.str):= .of fun d hd=>by
   obtain ⟨x,hx,rfl⟩:=By.mp hd;exact .name (hgood x hx).1 (Bh _ (hgood x hx).2)
  refine q _ _ (.tuple [.str "main",.tuple (cut.map PyData.str),.tuple ds]) (s+1) (t+1) names ((g3.trans g45).trans gc) (.tup (SqT.of upd_same) (.cons (.str _) (.cons (.tup (gc.sqT (SqT.of h3)) (Reps.strs cut)) (.cons (.tup (gb.sqT (SqT.of upd_same)) ((rs3.same g45).same gc)) .nil)))) good.len ?_ (Tre.qgk hcut ⟨⋯,pt3⟩) ⋯ ⋯;exact Tre.Fts.tup (.cons (.word ∅) (.cons fcut.tup (.cons ff3.tup .nil)))
theorem J8 (t:PyData):isi (tyD t) "tuple"=Tre.jn t:=by
 cases t with
 | none=>exact (O0:isi "NoneType" "tuple"=false)
 | bool _=>exact (O0:isi "bool" "tuple"=false)
 | int _=>exact (O0:isi "int" "tuple"=false)
 | str _=>exact (O0:isi "str" "tuple"=false)
 | list _=>exact (O0:isi "list" "tuple"=false)
 | tuple _=>exact (O0:isi "tuple" "tuple"=true)
 | dict _=>exact (O0:isi "dict" "tuple"=false)
theorem qe0 (x:PyData) (r:List PyData):isi (tyD x) "str"=Tre.wt (.tuple (x::r)):=by
 cases x with
 | none=>exact (O0:isi "NoneType" "str"=false)
 | bool _=>exact (O0:isi "bool" "str"=false)
 | int _=>exact (O0:isi "int" "str"=false)
 | str _=>exact (O0:isi "str" "str"=true)
 | list _=>exact (O0:isi "list" "str"=false)
 | tuple _=>exact (O0:isi "tuple" "str"=false)
 | dict _=>exact (O0:isi "dict" "str"=false)
theorem ZZ (h:Str):inV (.str h) [.str "main",.str "fun",.str "loop"]=Tre.holds h:=by
 have c:∀ a b:Str,(a==b)=(b==a):=fun a b=>by
  rw [Cc,Ax,Ax];exact eq_comm
 unfold inV Tre.holds;rw [Cu,Cu,Cu,List.any_nil,Ed];show (((("main":Str)==h))||((("fun":Str)==h)||(("loop":Str)==h)))=_;rw [c,c "fun",c "loop"]
theorem qc3 {a:Addr} {tt:TT} {σ:St} {H H0:Hp} {Q:VK} {xs:List V} {ds:List PyData} (hq:SqT K H a xs) (hr:Reps K H0 xs ds) (p:PyData→Bool) (hz:ds.length≤sizeLine)
  (step:∀ (x:V) (d:PyData) (R:Bool→Hp→Prop),Rep K H0 x d→R (p d) H→tt [some x] H R) (fin:∀ D vs,H D=none→Reps K H0 vs (ds.filter p)→Q (.ref D) (upd H D (.lst vs))):Qv (Itt K a) [none] (qv 0) tt (qg 0) σ H Q:=by
 have hlen:=hr.length;refine zG ds.length (fun i ys H'=>H'=H∧Reps K H0 ys ((ds.take i).filter p)∧ys.length≤i) ⟨rfl,.nil,Ah _⟩ (fun i ys H' h=>h.2.2) hz (fun i ys H' hi h=>?_) (fun ys H' h=>?_)
 ·obtain ⟨rfl,rr,hy⟩:=h;have hx:xs[i]?=some xs[i]:=Aq ⋯;refine ⟨⟨xs,xs[i],hq,hx⟩,fun v H2 yl=>?_⟩;obtain ⟨rfl,hv⟩:=yl;have e:=(hx.symm.trans (hv xs hq));cases e;obtain ⟨d,hd,rd⟩:=hr.get hx;have e2:(ds.take (i+1)).filter p=(ds.take i).filter p++(if p d=true then [d] else []):=by
   rw [Bb,hd,List.filter_append]
   congr 1
   show List.filter p [d]=_
   by_cases z:p d=true
   ·rw [if_pos z,List.filter_cons,if_pos z,List.filter_nil]
   ·rw [if_neg z,List.filter_cons,if_neg z,List.filter_nil]
  refine step _ d _ rd (v1 (fun z=>⟨_,rfl,rfl,?_,?_⟩) (fun z=>⟨rfl,?_,Dm hy⟩))
  ·rw [e2,if_pos z];exact rr.append (.cons rd .nil)
  ·rw [Ac];exact Cd hy
  ·rw [e2,if_neg z,A6];exact rr
 ·obtain ⟨rfl,rr,_⟩:=h;rw [Bp] at rr;refine ⟨⟨xs,hq,⋯⟩,fun D hD=>fin D ys hD rr⟩
theorem XV {H H0 H6:Hp} {a a1 pf:Addr} {vs1 zs:List V} {xs pre more:List PyData} {i:Nat} {o3:Option V} {D:Ends} (gA:qw H0 H6) (g2:qw H H6) (hq1:SqT K H0 a1 vs1) (rs1:Reps K H0 vs1 xs) (x12:xs.length≤12) (h0:H6 pf=some (.lst zs)) (rz:Reps K H0 zs pre) (hz:zs.length≤12*i) (hi:i<6) (ei:more=xs.filter Tre.jn) (m12:more.length≤12)
  (hD:∀ (p3:Addr) (zs':List V) (H':Hp),qw H6 H'→H p3=none→H' p3=some (.lst zs')→Reps K H0 zs' (pre++more)→zs'.length≤12*(i+1)→D.nx [some (.ref a),some (.ref p3),some (.ref a1),o3] H'):
  zz (tB (tCB (fun xs H Q=>∃ x d T,xs=[x,V.ty T]∧Rep K H x d∧T∈["bool","int","str","list","tuple"]∧Q (V.bl (isi (tyD d) T)) H) (qd (qg 2) (qd (tC (V.ty "tuple")) qo)))) (qX (tOp zW (qg 1) (vm (v3 K (qg 2)) [none] (qv 0) (tB (tCB (fun xs H Q=>∃ x d T,xs=[x,V.ty T]∧Rep K H x d∧T∈["bool","int","str","list","tuple"]∧Q (V.bl (isi (tyD d) T)) H) (qd (qg 0) (qd (tC (V.ty "tuple")) qo)))) (qg 0))) (qv 1)) zg D [some (.ref a),some (.ref pf),some (.ref a1),o3] H6:=by
 have rt:Rep K H6 (.ref a1) (.tuple xs):=(Rep.tup hq1 rs1).same gA;refine ⟨_,rfl,_,_,"tuple",rfl,rt,O0,_,rfl,qZ ((J8 _).trans rfl) ?_⟩;refine ⟨_,rfl,_,rfl,.inr (.inl ⟨a1,rfl,⟨_,gA.sqT hq1⟩,qc3 (gA.sqT hq1) rs1 Tre.jn (Av x12 O0) (fun x d R rd hR=>⟨_,rfl,_,d,"tuple",rfl,rd.same gA,O0,_,rfl,by rw [J8];exact hR⟩) (fun L vs hL rv=>?_)⟩)⟩
 have gD:=qe hL (.lst vs);have hvl:=rv.length;rw [← ei] at hvl rv;refine .inr (.inr ⟨pf,L,zs,vs,rfl,rfl,gD _ _ h0,upd_same,by have:(200:Nat)<sizeLine:=O0;omega,fun p3 hp3=>?_⟩)
 refine hD p3 (zs++vs) _ (gD.trans (qe hp3 _)) ((g2.trans gD).free hp3) upd_same (rz.append rv) ?_;rw [Ac];omega
inductive spLI (K:Frag) (vs:List V) (H:Hp) (Q:VK) (E':XK):Prop
 | mk:∀ x d s t H0,(vs=[x])→(qw H0 H)→(Rep K H0 x d)→(Tre.Tr d s t)→(t≤30)→(∀ H' p zs,qw H H'→H p=none→H' p=some (.lst zs)→Reps K H0 zs (Tre.zm d)→Q (.ref p) H')→spLI K vs H Q E'
inductive Iv_TreS_0 (K:W.Frag) (H:Hp) (H0:Hp) (ts:List PyData) (fs:List Str) (a:Addr) (ys:List V) (p1:Addr) (i:Nat) (σ:St) (H':Hp):Prop
 | mk:∀ pf zs o2 o3,(σ=[some (.ref a),some (.ref pf),o2,o3])→(qw H H')→(H pf=none)→(H' p1=some (.tup ys))→(H' pf=some (.lst zs))→(Reps K H0 zs (((ts.zip fs).take i).flatMap fun p=>(Tre.ql p.1 p.2).map (·.1)))→(zs.length≤12*i)→Iv_TreS_0 K H H0 ts fs a ys p1 i σ H'
def YC (K:Frag):TS:=qX (tOp zW (qg 1) (vm (v3 K (qg 2)) [none] (qv 0) (tB (tCB (fun xs H Q=>∃ x d T,xs=[x,V.ty T]∧Rep K H x d∧T∈["bool","int","str","list","tuple"]∧Q (V.bl (isi (tyD d) T)) H) (qd (qg 0) (qd (tC (V.ty "tuple")) qo)))) (qg 0))) (qv 1)
def YB (K:Frag):TS:=zQ (tBM K "list" z9 (qg 1) (qd (qg 2) qo))
def YA (K:Frag):TS:=zz (tB (tCB (fun xs H Q=>∃ x d T,xs=[x,V.ty T]∧Rep K H x d∧T∈["bool","int","str","list","tuple"]∧Q (V.bl (isi (tyD d) T)) H) (qd (qg 2) (qd (tC (V.ty "tuple")) qo)))) (YC K) zg
def Yz (K:Frag):TS:=zz (VP (tB (qg 3)) (qI (tOp (rIn K true) (tOp (rIx K) (qg 0) (tC (V.int 0))) (jl (qd (tC (V.str "main")) (qd (tC (V.str "fun")) (qd (tC (V.str "loop")) qo))))))) (YB K) (YA K)
def Yy (K:Frag):TS:=qG (qX (Zm (tCB (fun xs H Q=>∃ x d T,xs=[x,V.ty T]∧Rep K H x d∧T∈["bool","int","str","list","tuple"]∧Q (V.bl (isi (tyD d) T)) H) (qd (qg 2) (qd (tC (V.ty "tuple")) qo))) (Zm (tOp (qgf K) (qg 2) (jl qo)) (tCB (fun xs H Q=>∃ x d T,xs=[x,V.ty T]∧Rep K H x d∧T∈["bool","int","str","list","tuple"]∧Q (V.bl (isi (tyD d) T)) H) (qd (tOp (rIx K) (qg 2) (tC (V.int 0))) (qd (tC (V.ty "str")) qo))))) (qv 3)) (Yz K)
def Yx (K:Frag):TS:=qG (Vj (v3 K (tSl (QI K) (qg 0) (W0 (tC (V.int 1))) VN)) (qv 2) (Yy K)) (jb (qg 1))
theorem Xy (F:Fun K "_law_inner" "_law_inner" Jz f fd) (c:Cs K mg ad):FnOk P w K mg base CX0 1 f fd ["_law_part"] (spLI K):=by
 refine F.ok jB (fun vs H Q E h=>?_) (fun cdv A outer s H vs Q E hr h=>?_)
 ·obtain ⟨x,d,s,t,H0,rfl,_⟩:=h;rfl
 obtain ⟨x,d,s,t,H0,rfl,gH,hk,tr,ht,q⟩:=h;have hu64:=hr.units;refine ⟨_,(qf (pst 1 jB.nd (zj qc))
   (qf (jf Bt rfl (JP (K:=K) rfl (jY (Zr (K:=K) rfl) (pv 0) (Jg qh) J5)) (pgn 2 jB.nd) (qf (pst 3 jB.nd (Vt (qz (j7 (K:=K) rfl) (by rfl) c.isinstance_ qJ (qb (pv 2) (qb (JQ c.tuple_ zH) qc))) (Vt (jF (qhy (K:=K) rfl hu64) (pv 2) (qO qc) (qD _)) (Vr (qz (j7 (K:=K) rfl) (by rfl) c.isinstance_ qJ (qb (pix K (pv 2) qh) (qb (JQ c.str_ wy) qc)))))))
   (qi (qN (PW.pt (J4 (zZ (pv 3)) (JB (qt (ZP (K:=K) rfl) (pix K (pv 0) qh) (qO (qb qp (qb qp (qb qp qc)))) rfl)))) (qi (za (JN (K:=K) rfl A5 B0 Bz zX (pv 1) (qb (pv 2) qc)))) (qi (qN (zZ (qz (j7 (K:=K) rfl) (by rfl) c.isinstance_ qJ (qb (pv 2) (qb (JQ c.tuple_ zH) qc)))) (qi (pst 1 jB.nd (qu zb (pv 1) (jk (sc:=qj Jz) (NX:=["_law_part","_law_found","_law_thing","_law_is_part"]) (N:=["_law_one"]) (js:=[none]) (JP (K:=K) rfl (pv 2)) (fun _ _ _ _ _=>(zn (i:=0) (show (["_law_one"]:List Str).Nodup from ∅) rfl (Or.inl rfl))) (fun _ _ _ _ _=>(QK (zZ (qz (j7 (K:=K) rfl) (by rfl) c.isinstance_ qJ (qb (pv 0) (qb (JQ c.tuple_ zH) qc)))))) (fun _ _ _ _ _=>(pv 0)) (zF rfl) ⟨∅,rfl,∅,∅,rfl,∅⟩)))) qB))))))
   (qi (qy (pv 1))))),?_⟩
 show qG (qX (Jv qo) (qv 1)) (Yx K) _ _ _;clear hu64;have gd:=tr.gd;refine tr.el fun sh hands s' t' es et hf tl=>?_;obtain ⟨hd,ts,fs,l,rfl,_,_,e,h5,hl,hs,_⟩:=Tre.qV hf;have kf:=tl.forms;have ek:Tre.zm (.tuple (.str hd::ts))=(ts.zip fs).flatMap fun p=>(Tre.ql p.1 p.2).map (·.1):=by
  unfold Tre.zm;rw [Tre.qW e,List.map_flatMap]
 refine hk.tp1 fun a ys ex hq rs=>?_;subst ex;have hys:=rs.length;refine ⟨(O0:0≤sizeLine),fun p0 hp0=>?_⟩;have g0:=qe hp0 (.lst []);refine ⟨_,rfl,_,rfl,.inr (.inr ⟨a,_,rfl,(gH.trans g0).sqT hq,XX _ _,fun p1 hp1=>?_⟩)⟩;rw [qjr];have g1:=g0.trans (qe hp1 (.tup ys));have n01:p0≠p1:=qx upd_same hp1;refine .inr (.inl ⟨p1,rfl,⟨ys,SqT.of upd_same⟩,?_⟩);refine yD rs (Iv_TreS_0 K H H0 ts fs a ys p1) ?_ (fun i σ H' h=>?_) (fun i σ H3 v t hi hti rt h D' hn _=>?_) (fun σ H2 h=>?_)
 ·exact ⟨p0,[],none,none,rfl,g1,hp0,upd_same,by rw [qm n01];exact upd_same,.nil,Ah _⟩
 ·obtain ⟨pf,zs,o2,o3,rfl,g2,hpf,h1,h0,rz,hz⟩:=h;exact SqT.of h1
 ·obtain ⟨pf,zs,o2,o3,rfl,g2,hpf,h1,h0,rz,hz⟩:=h;obtain ⟨f,hfi⟩:=va (l:=fs) (i:=i) ⋯;have hzi:(ts.zip fs)[i]?=some (t,f):=by rw [D6];exact ⟨hti,hfi⟩
  have hmem:=A9 hzi;have hkin:∀ z∈Tre.ql t f,z.1∈Tre.zm (.tuple (.str hd::ts)):=fun z hz=>by
   rw [ek];exact C2.mpr ⟨_,hmem,Ci hz⟩
  have it:=Tre.qg6 (t:=t) (f:=f) e (A9 hfi) (hs _ hmem) fun z hz=>kf z.1 (hkin z hz);have i12:(Tre.ql t f).length≤12:=Tre.yu (hs _ hmem);have gt:Tre.Gd 64 t:=(gd.mem t (Am _ (A9 hti))).mono ⋯;have tk:((ts.zip fs).take (i+1)).flatMap (fun p=>(Tre.ql p.1 p.2).map (·.1))=((ts.zip fs).take i).flatMap (fun p=>(Tre.ql p.1 p.2).map (·.1))++(Tre.ql t f).map (·.1):=by
   rw [Bb,hzi,Ch]
   congr 1
   show List.flatMap _ [(t,f)]=_;rw [Cz,List.flatMap_nil,A6]
  have gA:=gH.trans g2;have npf:p1≠pf:=fun z=>by rw [z,h0] at h1;cases h1
  have rt3:=rt.same gA;rcases it with ⟨tn,ei⟩ | ⟨tp,nh,ei⟩ | ⟨xs,rfl,nb,x12,ei⟩
  ·refine ⟨_,rfl,_,t,"tuple",rfl,rt3,O0,_,rfl,qR ((J8 t).trans tn) ?_⟩;refine ⟨_,rfl,_,rfl,qR rfl (qR rfl ?_)⟩;refine ⟨_,rfl,_,t,"tuple",rfl,rt3,O0,_,rfl,qR ((J8 t).trans tn) ?_⟩;refine hn _ _ ⟨pf,zs,_,_,rfl,g2,hpf,h1,h0,?_,⋯⟩;rw [tk,ei,A6];exact rz
  ·obtain ⟨z,r,rfl⟩:∃ z r,t= .tuple (.str z::r):=by
    cases t with
    | tuple xs=>
     cases xs with
     | nil=>cases tp
     | cons x r=>
      cases x with
      | str z=>exact ⟨z,r,rfl⟩
      | _=>cases tp
    | _=>cases tp
   refine rt.tp1 fun a1 vs1 e1 hq1 rs1=>?_;subst e1;refine ⟨_,rfl,_,_,"tuple",rfl,rt3,O0,_,rfl,qZ ((J8 _).trans rfl) ?_⟩;refine ⟨_,rfl,(O0:0≤sizeLine),fun p2 hp2=>?_⟩;have g3:=qe hp2 (.tup []);refine ⟨_,.tuple [],rt3.same g3,.tup (SqT.of upd_same) .nil,gt.shaped (Ah _),O0,_,rfl,qZ rfl ?_⟩;refine ⟨_,rfl,ixT ((gA.trans g3).sqT hq1) (qk (j:=0) rfl) ⟨_,.str z,"str",rfl,.str _,O0,?_⟩⟩;generalize hH4:upd H3 p2 (.tup [])=H4 at g3 ⊢;refine ⟨_,rfl,_,rfl,qZ (show isi "str" "str"=true from O0) ?_⟩;refine ⟨_,rfl,ixT ((gA.trans g3).sqT hq) (qk (j:=0) rfl) ⟨(O0:3≤sizeLine),fun p3 hp3=>?_⟩⟩;have g4:=qe hp3 (.tup [.str "main",.str "fun",.str "loop"]);refine (inS (.inr (SqT.of upd_same)) rfl rfl ⟨_,rfl,qZ (show (!inV _ _)=true by rw [ZZ,nh];rfl) ?_⟩)
   have g5:=g3.trans g4;generalize upd H4 p3 (.tup [.str "main",.str "fun",.str "loop"])=H5 at g5 ⊢;refine ⟨_,rfl,.inl ⟨rfl,_,SqL.of (g5 _ _ h0)⟩,v8 ⟨_,rfl,pf,_,_,rfl,rfl,g5 _ _ h0,by have:(100:Nat)<sizeLine:=O0;omega,?_⟩⟩
   refine hn _ _ ⟨pf,_,_,_,rfl,qL (g2.trans g5) hpf _,hpf,by rw [qm npf];exact g5 _ _ h1,upd_same,?_,?_⟩
   ·rw [tk,ei];exact rz.append (.cons (.tup hq1 (.cons (.str _) rs1)) .nil)
   ·rw [Ac,At];omega
  ·refine rt.tpl fun a1 vs1 e1 hq1 rs1=>?_;subst e1;refine ⟨_,rfl,_,_,"tuple",rfl,rt3,O0,_,rfl,qZ ((J8 _).trans rfl) ?_⟩;refine ⟨_,rfl,(O0:0≤sizeLine),fun p2 hp2=>?_⟩;have g3:=qe hp2 (.tup []);refine ⟨_,.tuple [],rt3.same g3,.tup (SqT.of upd_same) .nil,gt.shaped (Ah _),O0,_,rfl,?_⟩;generalize upd H3 p2 (.tup [])=H4 at g3 ⊢;cases xs with
   | nil=>
    refine qR rfl ?_;refine ⟨_,rfl,_,rfl,qR rfl (qR rfl ?_)⟩;generalize H4=H6 at g3 ⊢;have g6:=g3;exact XV (gA.trans g6) (g2.trans g6) hq1 rs1 x12 (g6 _ _ h0) rz hz ⋯ ei (by rw [Ab];exact i12) (fun p3 zs' H' g hp3 h3 rr hl=>hn _ _ ⟨p3,zs',_,_,rfl,g2.trans (g6.trans g),hp3,(g6.trans g) _ _ h1,h3,by rw [tk];exact rr,hl⟩)
   | cons x0 r=>
    cases hrs:rs1 with
    | @cons y1 vs2 _ _ r1 rs2=>
     refine qZ rfl ?_;refine ⟨_,rfl,ixT ((gA.trans g3).sqT hq1) (qk (j:=0) rfl) ⟨_,x0,"str",rfl,r1.same (gA.trans g3),O0,?_⟩⟩;refine ⟨_,rfl,_,rfl,?_⟩;have eb:=qe0 x0 r
     by_cases hb:Tre.wt (.tuple (x0::r))=true
     ·have hh:Tre.holds hd=true:=by
       rw [hb,Cm] at nb;simpa using nb
      refine qZ (eb.trans hb) ?_;refine ⟨_,rfl,ixT ((gA.trans g3).sqT hq) (qk (j:=0) rfl) ⟨(O0:3≤sizeLine),fun p3 hp3=>?_⟩⟩;have g4:=qe hp3 (.tup [.str "main",.str "fun",.str "loop"]);refine (inS (.inr (SqT.of upd_same)) rfl rfl ⟨_,rfl,qR (show (!inV _ _)=false by rw [ZZ,hh];rfl) ?_⟩)
      have g6:=g3.trans g4;generalize upd H4 p3 (.tup [.str "main",.str "fun",.str "loop"])=H6 at g6 ⊢;exact XV (gA.trans g6) (g2.trans g6) hq1 rs1 x12 (g6 _ _ h0) rz hz ⋯ ei (by rw [Ab];exact i12) (fun p3 zs' H' g hp3 h3 rr hl=>hn _ _ ⟨p3,zs',_,_,rfl,g2.trans (g6.trans g),hp3,(g6.trans g) _ _ h1,h3,by rw [tk];exact rr,hl⟩)
     ·refine qR (eb.trans (Bo.mpr hb)) (qR rfl ?_);generalize H4=H6 at g3 ⊢;have g6:=g3;exact XV (gA.trans g6) (g2.trans g6) hq1 rs1 x12 (g6 _ _ h0) rz hz ⋯ ei (by rw [Ab];exact i12) (fun p3 zs' H' g hp3 h3 rr hl=>hn _ _ ⟨p3,zs',_,_,rfl,g2.trans (g6.trans g),hp3,(g6.trans g) _ _ h1,h3,by rw [tk];exact rr,hl⟩)
 ·obtain ⟨pf,zs,o2,o3,rfl,g2,hpf,h1,h0,rz,hz⟩:=h;refine ⟨_,rfl,q _ pf zs g2 hpf h0 ?_⟩;rw [ek];rw [Dc (by rw [Ef];omega)] at rz
  exact rz
end
end Mine
namespace L2
open PySem PySem.Spec PyProof.Rows
theorem Reps.rev {K:Frag} {H:Hp}:∀ {xs:List V} {ds:List PyData},Reps K H xs ds→Reps K H xs.reverse ds.reverse
 | _,_,.nil=> .nil
 | _,_,.cons h t=>by
  rw [C0,C0];exact (Reps.rev t).append (.cons h .nil)
end L2
namespace Mine
open PySem L2
structure Tb2 (K:Frag) (mg:Str→Option Value):Prop where
 INNER_KINDS:∃ a,mg "INNER_KINDS"=some (.ref a)∧∀ H:Hp,SqT K H a ((["fun","loop"]:List Str).map V.str)
section
variable {P:Program} {w:World} {K:Frag} {mg:Str→Option Value} {base:Heap} {f:Addr} {fd:FuncData} {ad:Ad}
theorem ZY (h:Str):(decide (V.str h=V.str "main")||inV (.str h) [.str "fun",.str "loop"])=Tre.holds h:=by
 have c:∀ a b:Str,(a==b)=(b==a):=fun a b=>by
  rw [Cc,Ax,Ax];exact eq_comm
 have e:decide (V.str h=V.str "main")=(h=="main"):=by
  rw [Cc,decide_eq_true_iff,Ax];exact ⟨fun z=>V.str.inj z,fun z=>congrArg V.str z⟩
 unfold inV Tre.holds;rw [e,Cu,Cu,List.any_nil,Ed];show (_||((("fun":Str)==h)||(("loop":Str)==h)))=_;rw [c "fun",c "loop"]
theorem vR:∀ {xs:List PyData} {x:PyData},Tre.zO xs=true→Tre.noL x=true→Tre.zO (xs++[x])=true
 | [],x,_,h=>by
  show Tre.zO [x]=true;rw [Tre.zO,Tre.zO,h];rfl
 | y::r,x,h,h'=>by
  rw [Tre.zO,Ae] at h;rw [C5,Tre.zO,h.1,vR h.2 h'];rfl
theorem ZO:∀ {xs:List PyData},Tre.zO xs=true→Tre.zO xs.reverse=true
 | [],_=>rfl
 | y::r,h=>by
  rw [Tre.zO,Ae] at h;rw [C0];exact vR (ZO h.2) h.1
inductive spFuns (K:Frag) (vs:List V) (H:Hp) (Q:VK) (E':XK):Prop
 | mk:∀ x d s t,(vs=[x])→(Rep K H x d)→(Tre.fit d=true)→(Tre.Pt d "program" false s t)→(s≤300)→(t≤20)→(∀ H' p zs,qw H H'→H p=none→H' p=some (.lst zs)→Reps K H' zs (Tre.funs d)→Q (.ref p) H')→spFuns K vs H Q E'
inductive PvF (K:Frag) (H:Hp) (x:V) (pf pa:Addr) (fin:List PyData) (m:Nat) (σ:St) (H':Hp):Prop
 | mk:∀ (zs vs:List V) (acc:List PyData) (tops:List (PyData×PyData)) (o3 o4 o5:Option V),(σ=[some x,some (.ref pf),some (.ref pa),o3,o4,o5])→(qw H H')→(H' pf=some (.lst zs))→(H' pa=some (.lst vs.reverse))→(Reps K H' zs acc)→(Reps K H' vs (tops.map Tre.VU))→(Tre.Stk tops m)→(Tre.zO acc=true)→(Tre.Qi tops acc=fin)→(acc.length+m≤300)→PvF K H x pf pa fin m σ H'
theorem qfe {H H4:Hp} {x yo:V} {pf pa a2:Addr} {fin:List PyData} {o3:Option V} {zs4 vs':List V} {acc4:List PyData} {r:List (PyData×PyData)} {d1 o':PyData} {sh:Str} {hands:Bool} {s0 t0 m1:Nat} {D:Ends}
  (npa:pf≠pa) (hpa0:H pa=none) (g4:qw H H4) (hz4:H4 pf=some (.lst zs4)) (hv4:H4 pa=some (.lst vs'.reverse)) (rz4:Reps K H4 zs4 acc4) (rv4:Reps K H4 vs' (r.map Tre.VU)) (rd4:Rep K H4 (.ref a2) d1) (ro4:Rep K H4 yo o') (go:Tre.Gd 0 o') (nol4:Tre.zO acc4=true)
  (hf1:Tre.qK d1 sh hands=true) (tl:Tre.Trl (Tre.zm d1) s0 t0) (ht:t0≤19) (stk1:Tre.Stk r m1) (hlen:acc4.length+(s0+m1)≤300) (hfin:Tre.Qi r (Tre.jO 30 (Tre.zm d1) o' acc4)=fin) (hD:∀ σ' H',PvF K H x pf pa fin (s0+m1) σ' H'→D.nx σ' H'):
  zQ (tBM K "list" jT (qg 2) (qd (vm (qjl K (qd (qE (spInnerOf K) [] E0 (qd (qg 4) qo)) qo)) [none,some 5] (qv 0) Zl (jl (qd (qg 0) (qd (qg 1) qo)))) qo)) D [some x,some (.ref pf),some (.ref pa),o3,some (.ref a2),some yo] H4:=by
 have k60:=Tre.qa2 hf1;have hvl:=rv4.length;rw [Ab] at hvl;have skl:=stk1.len;have big:(2000:Nat)<sizeLine:=O0;refine ⟨_,rfl,.inl ⟨rfl,_,SqL.of hv4⟩,v8 ⟨_,rfl,_,d1,sh,hands,H4,rfl,qw.refl _,rd4,hf1,fun H5 p5 ks g5 hp5 hl5 rk=>⟨p5,ks,rfl,SqL.of hl5,?_⟩⟩⟩;have hkl:=rk.length;refine zG ks.length (fun i ys H'=>qw H5 H'∧Reps K H' ys (((Tre.zm d1).reverse.take i).map fun e=>Tre.VU (e,o'))) ⟨qw.refl _,.nil⟩ (fun i ys H' h=>?_) ⋯ (fun i ys H' hi h=>?_) (fun ys H' h=>?_)
 ·rw [h.2.length,Ab];exact Bv _ _
 ·obtain ⟨g6,ry⟩:=h;refine ⟨⟨hi,ks,SqL.of (g6 _ _ hl5),rfl⟩,fun v H6 yl=>?_⟩;obtain ⟨rfl,hv⟩:=yl;have hx:=hv ks (SqL.of (g6 _ _ hl5));obtain ⟨e,he,re⟩:=rk.get hx;have hre:(Tre.zm d1).reverse[i]?=some e:=by
   rw [List.getElem?_reverse ⋯,← hkl];exact he
  refine ⟨_,rfl,_,rfl,(O0:2≤sizeLine),fun p hp=>⟨g6.trans (qe hp _),?_⟩⟩;have g7:=qe hp (.tup [v,yo]);rw [Bb,hre,An];exact (ry.same g7).append (.cons (.tup (SqT.of upd_same) (.cons (re.same ((g5.trans g6).trans g7)) (.cons (ro4.same ((g5.trans g6).trans g7)) .nil))) .nil)
 ·obtain ⟨g6,ry⟩:=h;rw [Dc (by rw [A4];omega)] at ry
  have hyl:=ry.length;rw [Ab,A4] at hyl;refine ⟨by show ks.length≤ks.length;exact Ah _,fun L hL=>?_⟩
  have gL:=(g5.trans g6).trans (qe hL (.lst ys));have hvL:=gL _ _ hv4;refine ⟨pa,L,vs'.reverse,ys,rfl,rfl,hvL,upd_same,by rw [A4];omega,hD _ _ ?_⟩
  have nps:Tre.zO ((Tre.zm d1).reverse.map fun e=>Tre.VU (e,o'))=true:=by
   have q:=(Tre.Stk.push go .nil tl ⋯).nol;rw [A6,Bu] at q;rw [List.map_reverse];exact ZO q
  refine ⟨zs4,ys.reverse++vs',acc4,(Tre.zm d1).map (fun e=>(e,o'))++r,_,_,_,rfl,qL (g4.trans gL) hpa0 _,by rw [qm npa];exact gL _ _ hz4,?_,Reps.put hvL (rz4.same gL) nol4,?_,Tre.Stk.push go stk1 tl ⋯,nol4,by rw [Tre.Q5];exact hfin,hlen⟩
  ·rw [upd_same,List.reverse_append,List.reverse_reverse]
  ·rw [An,Bu];have r1:=Reps.put (o':= .lst (vs'.reverse++ys)) hvL (ry.same (qe hL (.lst ys))) nps;have r2:=r1.rev;rw [List.map_reverse,List.reverse_reverse] at r2;exact r2.append (Reps.put hvL (rv4.same gL) stk1.nol)
theorem qih {H H3:Hp} {x y2 ya yb:V} {pf pa a2:Addr} {o3:Option V} {zs vs':List V} {acc:List PyData} {r:List (PyData×PyData)} {hd:Str} {da db o1:PyData} {D:Ends} (npa:pf≠pa) (hpf0:H pf=none) (g3:qw H H3) (hz3:H3 pf=some (.lst zs)) (hv3:H3 pa=some (.lst vs'.reverse)) (rz3:Reps K H3 zs acc) (rv3:Reps K H3 vs' (r.map Tre.VU))
  (nrv:Tre.zO (r.map Tre.VU)=true) (hq2:SqT K H3 a2 [.str hd,ya,yb]) (ra:Rep K H3 ya da) (rb:Rep K H3 yb db) (ro:Rep K H3 y2 o1) (nd:Tre.noL (.tuple [.str hd,da,db])=true) (nfn:Tre.noL (.tuple [.str hd,da,db,o1])=true) (nol:Tre.zO acc=true) (hlen:acc.length≤1000)
  (hD:∀ H4 zs4,qw H H4→H4 pf=some (.lst zs4)→H4 pa=some (.lst vs'.reverse)→Reps K H4 zs4 (acc++[.tuple [.str hd,da,db,o1]])→Reps K H4 vs' (r.map Tre.VU)→Rep K H4 (.ref a2) (.tuple [.str hd,da,db])→D.nx [some x,some (.ref pf),some (.ref pa),o3,some (.ref a2),some (.int (acc.length:Nat))] H4):
  qG (zQ (tBM K "list" z9 (qg 1) (qd (jl (qd (tOp (rIx K) (qg 4) (tC (V.int 0))) (qd (tOp (rIx K) (qg 4) (tC (V.int 1))) (qd (tOp (rIx K) (qg 4) (tC (V.int 2))) (qd (qg 5) qo))))) qo)))
   (qX (tOp (rI0 fun i j=>V.int (i - j)) (tCB (fun xs H Q=>∃ x n,xs=[x]∧v9 K x H n∧Q (V.int ↑n) H) (qd (qg 1) qo)) (tC (V.int 1))) (qv 5)) D [some x,some (.ref pf),some (.ref pa),o3,some (.ref a2),some y2] H3:=by
 have hzl:=rz3.length;have big:(2000:Nat)<sizeLine:=O0;refine ⟨_,rfl,.inl ⟨rfl,_,SqL.of hz3⟩,v8 ⟨_,rfl,ixT hq2 (qk (j:=0) rfl) ⟨_,rfl,ixT hq2 (qk (j:=1) rfl) ⟨_,rfl,ixT hq2 (qk (j:=2) rfl) ⟨_,rfl,(O0:4≤sizeLine),fun p4 hp4=>?_⟩⟩⟩⟩⟩;have gn:=qe hp4 (.tup [.str hd,ya,yb,y2]);have hzn:=gn _ _ hz3;refine (apd hzn ⋯ ?_);have rz4:=Reps.put (o':= .lst (zs++[.ref p4])) hzn ((rz3.same gn).append (.cons (.tup (ds:=[.str hd,da,db,o1]) (SqT.of upd_same) (.cons (.str _) (.cons (ra.same gn) (.cons (rb.same gn) (.cons (ro.same gn) .nil))))) .nil)) (vR nol nfn);have rv4:=Reps.put (o':= .lst (zs++[.ref p4])) hzn (rv3.same gn) nrv;have rd4:=Rep.put (o':= .lst (zs++[.ref p4])) hzn ((Rep.tup hq2 (.cons (.str _) (.cons ra (.cons rb .nil)))).same gn) nd;have g4:=qL (g3.trans gn) hpf0 (.lst (zs++[.ref p4]));have hz4:upd (upd H3 p4 (.tup [.str hd,ya,yb,y2])) pf (.lst (zs++[.ref p4])) pf=some (.lst (zs++[.ref p4])):=upd_same;have hv4:upd (upd H3 p4 (.tup [.str hd,ya,yb,y2])) pf (.lst (zs++[.ref p4])) pa=some (.lst vs'.reverse):=by rw [qm (Ne.symm npa)];exact gn _ _ hv3
 dsimp only;generalize upd (upd H3 p4 (.tup [.str hd,ya,yb,y2])) pf (.lst (zs++[.ref p4]))=H4 at rz4 rv4 rd4 g4 hz4 hv4 ⊢;refine ⟨_,rfl,_,_,rfl,.inl ⟨_,SqL.of hz4,rfl⟩,_,_,rfl,rfl,?_⟩;have eo:(((zs++[V.ref p4]).length:Nat):Int) - 1=((acc.length:Nat):Int):=by rw [Ac,At,hzl];omega
 dsimp only;rw [eo];exact hD H4 _ g4 hz4 hv4 rz4 rv4 rd4
def wZ (K:Frag):TS:=qX (tOp (rI0 fun i j=>V.int (i - j)) (tCB (fun xs H Q=>∃ x n,xs=[x]∧v9 K x H n∧Q (V.int ↑n) H) (qd (qg 1) qo)) (tC (V.int 1))) (qv 5)
def wY (K:Frag):TS:=qG (zQ (tBM K "list" z9 (qg 1) (qd (jl (qd (tOp (rIx K) (qg 4) (tC (V.int 0))) (qd (tOp (rIx K) (qg 4) (tC (V.int 1))) (qd (tOp (rIx K) (qg 4) (tC (V.int 2))) (qd (qg 5) qo))))) qo))) (wZ K)
def wX (K:Frag):TS:=zQ (tBM K "list" jT (qg 2) (qd (vm (qjl K (qd (qE (spInnerOf K) [] E0 (qd (qg 4) qo)) qo)) [none,some 5] (qv 0) Zl (jl (qd (qg 0) (qd (qg 1) qo)))) qo))
def wW (K:Frag):TS:=qG (zz (tOr (qI (tOp rEq (tOp (rIx K) (qg 4) (tC (V.int 0))) (tC (V.str "main")))) (qI (tOp (rIn K false) (tOp (rIx K) (qg 4) (tC (V.int 0))) (tGT K [Str.ofString "fun",Str.ofString "loop"])))) (wY K) zg) (wX K)
def wU (K:Frag):TS:=qG (qX (tOp (rIx K) (qg 3) (tC (V.int 1))) (qv 5)) (wW K)
def wT (K:Frag):TS:=qG (qX (tOp (rIx K) (qg 3) (tC (V.int 0))) (qv 4)) (wU K)
def wS (K:Frag):TS:=qG (qX (qfz K "list" qig (qg 2)) (qv 3)) (wT K)
def wR (K:Frag):TS:=qG (Vi (fun σ H Q=>qg 2 σ H fun x H'=>∃ k,qfq K x H' k∧Q k H') (wS K)) (jb (qg 1))
def wQ (K:Frag):TS:=qG (qX (Jv (qd (jl (qd (qg 0) (qd (tC V.non) qo))) qo)) (qv 2)) (wR K)
def wP (K:Frag):TS:=qG (qX (Jv qo) (qv 1)) (wQ K)
theorem Wt (F:Fun K "functions_of" "functions_of" jD f fd) (c:Cs K mg ad) (T2:Tb2 K mg) (d_need_program:DefX P w K mg base 6 "need_program" ["thing"] (spNeed K ad)) (d_inner_of:Def P w K mg base 2 "inner_of" ["part"] (spInnerOf K)):FnOk P w K mg base CX0 7 f fd ["program"] (spFuns K):=by
 refine F.ok zt (fun vs H Q E h=>?_) (fun cdv A outer s H vs Q E hr h=>?_)
 ·obtain ⟨x,d,s,t,rfl,_⟩:=h;rfl
 obtain ⟨x,d,s,t,rfl,hk,hf,hp,hs,ht,q⟩:=h;have hu:=yz hr;refine ⟨_,(qf (za (qgw d_need_program (hr.mono (by first | decide | omega)) qku (qb (pv 0) qc)))
   (qf (pst 1 zt.nd (zj qc))
   (qf (pst 2 zt.nd (zj (qb (qO (qb (pv 0) (qb J6 qc))) qc)))
   (qf (Jr Bt (qil (K:=K) rfl (pv 2)) (qf (pst 3 zt.nd (qh2 (K:=K) rfl A5 PySem.F.slot_list_pop PySem.F.type_list_pop qet (pv 2)))
   (qf (pst 4 zt.nd (pix K (pv 3) qh))
   (qf (pst 5 zt.nd (pix K (pv 3) qh))
   (qf (qN (PW.pt (ve (qt zy (pix K (pv 4) qh) qp (qD _)) (JK (qt (yx (K:=K) rfl) (pix K (pv 4) qh) (qen T2.INNER_KINDS) rfl)))) (qf (za (JN (K:=K) rfl A5 B0 Bz zX (pv 1) (qb (qO (qb (pix K (pv 4) qh) (qb (pix K (pv 4) qh) (qb (pix K (pv 4) qh) (qb (pv 5) qc))))) qc)))
   (qi (pst 5 zt.nd (qu zu (qz (jw (K:=K) rfl) (by rfl) c.len_ zJ (qb (pv 1) qc)) qh)))) qB)
   (qi (za (JN (K:=K) rfl A5 Cf Cg jv (pv 2) (qb (jk (sc:=qj jD) (NX:=["program","found","ahead","pair","part","outer"]) (N:=["inner","outer"]) (js:=[none,some 5]) (qir (K:=K) rfl c.reversed_ (qb (pdf d_inner_of (qb (pv 4) qc)) qc)) (fun _ _ _ _ _=>(zn (i:=0) (show (["inner","outer"]:List Str).Nodup from ∅) rfl (Or.inl rfl))) (fun _ _ _ _ _=>jE) (fun _ _ _ _ _=>(qO (qb (pv 0) (qb (pv 1) qc)))) (zF rfl) ⟨∅,rfl,∅,∅,rfl,∅⟩) qc)))))))))
   (qi (qy (pv 1))))))),?_⟩
 show qG (zQ (qE (spNeed K ad) [] E0 (qd (qg 0) qo))) (wP K) _ _ _;clear hu;have hpr:=Tre.XG hp ht hs;refine ⟨_,rfl,x,d,rfl,hk,hf,fun _ H1 g1=>?_,fun z=>absurd (hpr.symm.trans z) O0⟩;refine ⟨(O0:0≤sizeLine),fun pf hpf=>?_⟩;have g2:=g1.trans (qe hpf (.lst []));refine ⟨_,rfl,(O0:2≤sizeLine),fun pp hpp=>⟨(O0:1≤sizeLine),fun pa hpa=>?_⟩⟩;have g3:=qe hpp (.tup [x,.non]);have g4:=qe hpa (.lst [.ref pp]);have g34:=g3.trans g4;have hpf0:H pf=none:=g1.free hpf;have hpa0:H pa=none:=(g2.trans g3).free hpa;have hf2:upd H1 pf (.lst []) pf=some (.lst []):=upd_same;have hf4:=g34 _ _ hf2;have hp4:=g4 _ _ (show upd (upd H1 pf (.lst [])) pp (.tup [x,.non]) pp=some (.tup [x,.non]) from upd_same);have npa:pf≠pa:=fun z=>by rw [z] at hf4;rw [upd_same] at hf4;cases hf4
 have tr:=hp.tr;refine ⟨PvF K H x pf pa (Tre.funs d),⟨s,[],[.ref pp],[],[(d,.none)],none,none,none,rfl,g2.trans g34,hf4,upd_same,.nil,.cons (.tup (SqT.of hp4) (.cons (hk.same (g2.trans g34)) (.cons .non .nil))) .nil,.cons tr ht ⟨rfl,rfl,Bm _⟩ .nil,rfl,rfl,(show 0+(s+0)≤300 from ⋯)⟩,?_⟩;clear g2 g3 g4 g34 hf2 hf4 hp4 hpp hpa hpf;rintro m σ H2 ⟨zs,vs,acc,tops,o3,o4,o5,rfl,g2,hz2,hv2,rz,rv,stk,nol,hfin,hlen⟩;refine ⟨_,rfl,_,.inl ⟨_,SqL.of hv2,rfl⟩,?_⟩;have hzl:=rz.length;have hvl:=rv.length;have skl:=stk.len;rw [Ab] at hvl;have big:(2000:Nat)<sizeLine:=O0;cases stk with
 | nil=>
  cases rv;exact qR rfl ⟨_,rfl,q _ pf zs g2 hpf0 hz2 (hfin▸rz)⟩
 | @cons d1 o1 r s1 t1 m1 tr1 ht1 go1 stk1=>
  refine rv.ct fun v vs' ev rv1 rv2=>?_;subst ev;refine qZ (show (!List.isEmpty _)=true by rw [C0];simp) ?_
  refine qj5 fun N hN=>?_;have elast:((v::vs').reverse)[((v::vs').reverse).length - 1]?=some v:=by
   rw [C0,Ac,At,Nat.add_sub_cancel,Cw (Ah _),Nat.sub_self];rfl
  refine ⟨_,rfl,.inl ⟨rfl,_,SqL.of hv2⟩,pa,_,v,rfl,rfl,hv2,elast,?_⟩;clear elast;rw [C0,List.dropLast_concat];have npd:Tre.noL (Tre.VU (d1,o1))=true:=by
   show Tre.noL (.tuple [_,_])=true;rw [Tre.noL,Tre.zO,Tre.zO,Tre.zO,tr1.gd.nol,go1.nol];rfl
  have hz3:upd H2 pa (.lst vs'.reverse) pf=some (.lst zs):=by rw [qm npa];exact hz2
  have rz3:=Reps.put (o':= .lst vs'.reverse) hv2 rz nol;have rv3:=Reps.put (o':= .lst vs'.reverse) hv2 rv2 stk1.nol;have rv13:=Rep.put (o':= .lst vs'.reverse) hv2 rv1 npd;have g3:=qL g2 hpa0 (.lst vs'.reverse);have hv3:upd H2 pa (.lst vs'.reverse) pa=some (.lst vs'.reverse):=upd_same;generalize upd H2 pa (.lst vs'.reverse)=H3 at hz3 rz3 rv3 rv13 g3 hv3 ⊢;have vis:=Tre.Vh (o:=o1) (acc:=acc) tr1 ⋯;clear hv2 hz2 rz rv rv1 rv2 g2 npd;refine tr1.el fun sh hands s0 t0 es et hf1 tl=>Tre.WR hf1 fun hd ts ed=>Rep.pair (d1:=d1) (d2:=o1) rv13 fun a1 y1 y2 e1 hq1 rd ro=>?_;have rd':Rep K H3 y1 (.tuple (.str hd::ts)):=ed▸rd;refine rd'.tp1 fun a2 ys3 e2 hq2 rs2=>?_;subst e2;refine ⟨_,rfl,.inr (.inl ⟨a1,_,0,_,e1,rfl,hq1,qk (j:=0) rfl,?_⟩)⟩;refine ⟨_,rfl,.inr (.inl ⟨a1,_,1,_,e1,rfl,hq1,qk (j:=1) rfl,?_⟩)⟩;clear e1 hq1 rv13 rd';have ik:=ZY hd;have fin3:Tre.isFn d1=Tre.holds hd:=by rw [ed];rfl
  dsimp only [qv];refine YI fun D2 h2 _=>Vz fun B b1 b2=>?_;have yes:Tre.holds hd=true→B true H3:=fun hh=>by
   refine b1 _ ?_;have eA:Tre.zx d1 o1 acc=acc++[Tre.fnOf d1 o1]:=by unfold Tre.zx;rw [if_pos (fin3.trans hh)]
   have eO:Tre.ja d1 o1 acc= .int (acc.length:Nat):=by unfold Tre.ja;rw [if_pos (fin3.trans hh)]
   obtain ⟨_,da,db,ed2,_⟩:=Tre.qa7 hf1 (fin3.trans hh);have ets:ts=[da,db]:=by
    rw [ed] at ed2;cases ed2;rfl
   subst ets;refine rs2.ct fun ya _ ea ra rs2=>rs2.ct fun yb _ eb rb rs2=>?_;cases rs2.nilI;subst eb;subst ea;have nfn:Tre.noL (Tre.fnOf d1 o1)=true:=by
    obtain ⟨_,_,_,_,_,gfn⟩:=Tre.qa8 (o:=o1) tr1 (fin3.trans hh) ⋯ go1;exact gfn.nol
   have nd:Tre.noL d1=true:=tr1.gd.nol;have al:=Tre.X3 d1 o1 acc;have go5:Tre.Gd 0 (Tre.ja d1 o1 acc):=by rw [eO];exact Tre.XO
   have nol5:Tre.zO (Tre.zx d1 o1 acc)=true:=by rw [eA];exact vR nol nfn
   rw [ed] at nd;have eF:Tre.fnOf d1 o1= .tuple [.str hd,da,db,o1]:=by rw [ed];rfl
   rw [eF] at nfn eA;refine qih npa hpf0 g3 hz3 hv3 rz3 rv3 stk1.nol hq2 ra rb ro nd nfn nol ⋯ fun H4 zs4 g4 hz4 hv4 rz4 rv4 rd4=>h2 _ _ ?_;have rz5:Reps K H4 zs4 (Tre.zx d1 o1 acc):=by rw [eA];exact rz4
   have ro5:Rep K H4 (.int (acc.length:Nat)) (Tre.ja d1 o1 acc):=by rw [eO];exact .int _
   rw [← ed] at rd4;exact qfe npa hpa0 g4 hz4 hv4 rz5 rv4 rd4 ro5 go5 nol5 hf1 tl ⋯ stk1 ⋯ (by rw [← vis];exact hfin) (fun σ' H' h=>hN _ _ ⟨s0+m1,⋯,h⟩)
  refine ⟨_,rfl,ixT hq2 (qk (j:=0) rfl) ⟨rfl,_,rfl,?_⟩⟩;refine v1 (fun hm=>yes (by rw [← ik,hm];rfl)) (fun hm=>⟨_,rfl,ixT hq2 (qk (j:=0) rfl) fun a3 ha3=>(inS (.inr (ha3 _)) rfl rfl ⟨_,rfl,?_⟩)⟩)
  by_cases hn:inV (.str hd) [.str "fun",.str "loop"]=true
  ·exact bP hn (yes (by rw [← ik,hn,E8]))
  ·refine bN (Bo.mpr hn) (b2 _ (h2 _ _ ?_));have hh:Tre.isFn d1=false:=by rw [fin3,← ik,Bo.mpr hm,Bo.mpr hn];rfl
   have eA:Tre.zx d1 o1 acc=acc:=by unfold Tre.zx;rw [if_neg (by rw [hh];exact Ag)]
   have eO:Tre.ja d1 o1 acc=o1:=by unfold Tre.ja;rw [if_neg (by rw [hh];exact Ag)]
   exact qfe (acc4:=Tre.zx d1 o1 acc) (o':=Tre.ja d1 o1 acc) npa hpa0 g3 hz3 hv3 (eA.symm▸rz3) rv3 rd (eO.symm▸ro) (eO.symm▸go1) (eA.symm▸nol) hf1 tl ⋯ stk1 (by rw [eA];omega) (by rw [← vis];exact hfin) (fun σ' H' h=>hN _ _ ⟨s0+m1,⋯,h⟩)
theorem deq {a b:Str} (h:a=b):decide (V.str a=V.str b)=true:=Ak (congrArg V.str h)
theorem dne {a b:Str} (h:a≠b):decide (V.str a=V.str b)=false:=As fun z=>h (V.str.inj z)
theorem qcm:¬ (("if":Str)="let")∧¬ (("while":Str)="let")∧¬ (("while":Str)="if")∧¬ (("try":Str)="let")∧¬ (("try":Str)="if")∧¬ (("try":Str)="while"):=∅
inductive spBro (K:Frag) (n:Nat) (vs:List V) (H:Hp) (Q:VK) (E':XK):Prop
 | mk:∀ x xs s t,(vs=[x])→(Rep K H x (.tuple xs))→(Tre.Trl xs s t)→(s≤300)→(t<n)→(∀ H' p,qw H H'→H p=none→H' p=some (.lst ((Tre.brL xs).map V.str))→Q (.ref p) H')→spBro K n vs H Q E'
inductive Iv_NamA_0 (H:Hp) (xs:List PyData) (pf:Addr) (a:Addr) (i:Nat) (σ:St) (H':Hp):Prop
 | mk:∀ o2 o3,(σ=[some (.ref a),some (.ref pf),o2,o3])→(qw H H')→(H' pf=some (.lst ((Tre.brL (xs.take i)).map V.str)))→Iv_NamA_0 H xs pf a i σ H'
def Yc (K:Frag) (n:Nat):TS:=zQ (tBM K "list" jT (qg 1) (qd (tOp zW (qE (spBro K n) [] E0 (qd (tOp (rIx K) (qg 2) (tC (V.int 4))) qo)) (qE (spBro K n) [] E0 (qd (tOp (rIx K) (qg 2) (tC (V.int 5))) qo))) qo))
def Yb (K:Frag) (n:Nat):TS:=qG (zQ (tBM K "list" jT (qg 1) (qd (tOp zW (qE (spBro K n) [] E0 (qd (tOp (rIx K) (qg 2) (tC (V.int 1))) qo)) (Jv (qd (tOp (rIx K) (qg 2) (tC (V.int 3))) qo))) qo))) (Yc K n)
def Ya (K:Frag) (n:Nat):TS:=zQ (tBM K "list" jT (qg 1) (qd (qE (spBro K n) [] E0 (qd (tOp (rIx K) (qg 2) (tC (V.int 2))) qo)) qo))
def y9 (K:Frag) (n:Nat):TS:=zz (qI (tOp rEq (qg 3) (tC (V.str "try")))) (Yb K n) zg
def y8 (K:Frag) (n:Nat):TS:=zQ (tBM K "list" jT (qg 1) (qd (tOp zW (qE (spBro K n) [] E0 (qd (tOp (rIx K) (qg 2) (tC (V.int 2))) qo)) (qE (spBro K n) [] E0 (qd (tOp (rIx K) (qg 2) (tC (V.int 3))) qo))) qo))
def y6 (K:Frag) (n:Nat):TS:=zz (qI (tOp rEq (qg 3) (tC (V.str "while")))) (Ya K n) (y9 K n)
def yZ (K:Frag):TS:=zQ (tBM K "list" z9 (qg 1) (qd (tOp (rIx K) (qg 2) (tC (V.int 1))) qo))
def yY (K:Frag) (n:Nat):TS:=zz (qI (tOp rEq (qg 3) (tC (V.str "if")))) (y8 K n) (y6 K n)
def yX (K:Frag) (n:Nat):TS:=zz (qI (tOp rEq (qg 3) (tC (V.str "let")))) (yZ K) (yY K n)
def yW (K:Frag) (n:Nat):TS:=qG (qX (tOp (rIx K) (qg 2) (tC (V.int 0))) (qv 3)) (yX K n)
def WL (K:Frag) (n:Nat):TS:=qG (Vj (v3 K (qg 0)) (qv 2) (yW K n)) (jb (qg 1))
theorem Yh (F:Fun K "brought_by" "brought_by" Jf f fd) (n:Nat) (d_brought_by:Def P w K mg base n "brought_by" ["body"] (spBro K n)):FnOk P w K mg base CX0 (n+1) f fd ["body"] (spBro K (n+1)):=by
 refine F.ok (k:=n) jR (fun vs H Q E h=>?_) (fun cdv A outer s H vs Q E hr h=>?_)
 ·obtain ⟨x,xs,s,t,rfl,_⟩:=h;rfl
 obtain ⟨x,xs,s,t,rfl,hk,tl,hs,ht,q⟩:=h;refine ⟨_,(qf (pst 1 jR.nd (zj qc))
   (qf (jf Bt rfl (JP (K:=K) rfl (pv 0)) (pgn 2 jR.nd) (qf (pst 3 jR.nd (pix K (pv 2) qh))
   (qi (qN (qt zy (pv 3) qp (qD _)) (qi (za (JN (K:=K) rfl A5 B0 Bz zX (pv 1) (qb (pix K (pv 2) qh) qc)))) (qi (qN (qt zy (pv 3) qp (qD _)) (qi (za (JN (K:=K) rfl A5 Cf Cg jv (pv 1) (qb (qu zb (pdf d_brought_by (qb (pix K (pv 2) qh) qc)) (pdf d_brought_by (qb (pix K (pv 2) qh) qc))) qc)))) (qi (qN (qt zy (pv 3) qp (qD _)) (qi (za (JN (K:=K) rfl A5 Cf Cg jv (pv 1) (qb (pdf d_brought_by (qb (pix K (pv 2) qh) qc)) qc)))) (qi (qN (qt zy (pv 3) qp (qD _)) (qf (za (JN (K:=K) rfl A5 Cf Cg jv (pv 1) (qb (qu zb (pdf d_brought_by (qb (pix K (pv 2) qh) qc)) (zj (qb (pix K (pv 2) qh) qc))) qc)))
   (qi (za (JN (K:=K) rfl A5 Cf Cg jv (pv 1) (qb (qu zb (pdf d_brought_by (qb (pix K (pv 2) qh) qc)) (pdf d_brought_by (qb (pix K (pv 2) qh) qc))) qc))))) qB))))))))))
   (qi (qy (pv 1))))),?_⟩
 show qG (qX (Jv qo) (qv 1)) (WL K n) _ _ _;refine ⟨qQ O0,fun pf hpf=>?_⟩;have g0:=qe hpf (.lst []);have h0:upd H pf (.lst []) pf=some (.lst []):=upd_same;generalize upd H pf (.lst [])=H0 at g0 h0 ⊢;obtain ⟨a,ws,rfl,hq,rs⟩:=hk.tup_inv;have hwl:=rs.length;have few:=tl.few;have tot:∀ j,(Tre.brL (xs.take j)).length≤300:=fun j=>by
  have e:=congrArg List.length (Tre.brL_append (xs.take j) (xs.drop j));rw [Dh,Ac] at e;have:=Tre.yT _ tl (Ah _);omega
 refine ⟨_,rfl,.inr (.inl ⟨a,rfl,⟨ws,g0.sqT hq⟩,?_⟩)⟩;refine yD rs (Iv_NamA_0 H xs pf a) ?_ (fun i σ H' h=>?_) (fun i σ H3 v d hi he rd h D' hn _=>?_) (fun σ H2 h=>?_)
 ·exact ⟨none,none,rfl,g0,h0⟩
 ·obtain ⟨o2,o3,rfl,g2,hp2⟩:=h;exact g2.sqT hq
 ·obtain ⟨o2,o3,rfl,g2,hp2⟩:=h;obtain ⟨s1,t1,tr,hs1,ht1⟩:=tl.mem d (A9 he);have tot1:=tot (i+1);rw [Bb,he,Tre.brL_append,show (some d).toList=[d] from rfl,Tre.brL,Tre.brL,A6,Ac] at tot1;have fin:∀ (H':Hp),qw H H'→H' pf=some (.lst ((Tre.brL (xs.take i)++Tre.brS d).map V.str))→∀ o2 o3,D'.nx [some (.ref a),some (.ref pf),o2,o3] H':=fun H' g h o2 o3=>by
   refine hn _ _ ⟨o2,o3,rfl,g,?_⟩;rw [Bb,he,Tre.brL_append,show (some d).toList=[d] from rfl,Tre.brL,Tre.brL,A6];exact h
  clear hn;have zl:=tot i;cases Tre.wa tr with
  | @let_ x a1 _ _ _=>
   refine rd.tp3 fun a2 y1 y2 e hq0 r1 r2=>?_;subst e;obtain rfl:=r1.strI;have hq2:=g2.sqT hq0;refine YI fun D2 h2 _=>⟨_,rfl,ixT hq2 (qk (j:=0) rfl) (h2 _ _ (Vz fun B b1 b2=>⟨_,rfl,rfl,_,rfl,bP (deq rfl) (b1 _ ?_)⟩))⟩;refine ⟨_,rfl,.inl ⟨rfl,_,SqL.of hp2⟩,v8 ⟨_,rfl,ixT hq2 (qk (j:=1) rfl) (apd hp2 (Jx (by simp only [Ac,Ab,At,Aj,Bj,A4];omega)) ?_)⟩⟩
   refine fin _ (qL g2 hpf _) ?_ _ _;rw [upd_same,Tre.Q4,An];rfl
  | @if_ a1 xs1 ys1 _ _ sa ta sb tb _ _ p1 p2 l0 l1 l2=>
   refine rd.tp4 fun a2 y1 y2 y3 e hq0 r1 r2 r3=>?_;subst e;have hq2:=g2.sqT hq0;have nb:Tre.brS (.tuple [.str "if",a1,.tuple xs1,.tuple ys1])=Tre.brL xs1++Tre.brL ys1:=Tre.qfn _ _ _;rw [nb,Ac] at tot1;refine YI fun D2 h2 _=>⟨_,rfl,ixT hq2 (qk (j:=0) rfl) (h2 _ _ (Vz fun B b1 b2=>⟨_,rfl,rfl,_,rfl,bN (dne qcm.1) (b2 _ ?_)⟩))⟩;refine Vz fun B b1 b2=>⟨_,rfl,rfl,_,rfl,bP (deq rfl) (b1 _ ?_)⟩;refine ⟨_,rfl,.inl ⟨rfl,_,SqL.of hp2⟩,v8 ⟨_,rfl,ixT hq2 (qk (j:=2) rfl) ⟨_,_,_,_,rfl,r2.same g2,p1,⋯,⋯,fun H4 q1 g4 hq1 hl4=>?_⟩⟩⟩;refine ⟨_,rfl,ixT (g4.sqT hq2) (qk (j:=3) rfl) ⟨_,_,_,_,rfl,r3.same (g2.trans g4),p2,⋯,⋯,fun H5 q2 g5 hq2 hl5=>?_⟩⟩;refine Wv (g5 _ _ hl4) hl5 (qQ (by simp only [Ac,Ab,At,Aj,Bj,A4];omega)) fun q3 hq3=>?_
   have g6:=qe hq3 (.lst ((Tre.brL xs1).map V.str++(Tre.brL ys1).map V.str));have g46:=(g4.trans g5).trans g6;refine (exd (g46 _ _ hp2) upd_same (qQ (by simp only [Ac,Ab,At,Aj,Bj,A4];omega)) ?_)
   refine fin _ (qL (g2.trans g46) hpf _) ?_ _ _;rw [upd_same,nb,An,An]
  | @while_ a1 xs1 _ _ sa ta _ p1 l0 l1=>
   refine rd.tp3 fun a2 y1 y2 e hq0 r1 r2=>?_;subst e;have hq2:=g2.sqT hq0;have nb:Tre.brS (.tuple [.str "while",a1,.tuple xs1])=Tre.brL xs1:=Tre.yS _ _;rw [nb] at tot1;refine YI fun D2 h2 _=>⟨_,rfl,ixT hq2 (qk (j:=0) rfl) (h2 _ _ (Vz fun B b1 b2=>⟨_,rfl,rfl,_,rfl,bN (dne qcm.2.1) (b2 _ ?_)⟩))⟩;refine Vz fun B b1 b2=>⟨_,rfl,rfl,_,rfl,bN (dne qcm.2.2.1) (b2 _ ?_)⟩;refine Vz fun B b1 b2=>⟨_,rfl,rfl,_,rfl,bP (deq rfl) (b1 _ ?_)⟩;refine ⟨_,rfl,.inl ⟨rfl,_,SqL.of hp2⟩,v8 ⟨_,rfl,ixT hq2 (qk (j:=2) rfl) ⟨_,_,_,_,rfl,r2.same g2,p1,⋯,⋯,fun H4 q1 g4 hq1 hl4=>?_⟩⟩⟩;refine (exd (g4 _ _ hp2) hl4 (qQ (by simp only [Ac,Ab,At,Aj,Bj,A4];omega)) ?_)
   refine fin _ (qL (g2.trans g4) hpf _) ?_ _ _;rw [upd_same,nb,An]
  | @try_ b c xs1 ys1 zs1 _ _ sa ta sb tb sc tc _ _ _ _ p1 p2 p3 l0 l1 l2 l3=>
   refine rd.tp6 fun a2 y1 y2 y3 y4 y5 e hq0 r1 r2 r3 r4 r5=>?_;subst e;obtain rfl:=r3.strI;have hq2:=g2.sqT hq0;have nb:Tre.brS (.tuple [.str "try",.tuple xs1,.str b,.str c,.tuple ys1,.tuple zs1])=Tre.brL xs1++(c::(Tre.brL ys1++Tre.brL zs1)):=Tre.Q3 _ _ _ _ _;rw [nb,Ac,Aj,Ac] at tot1;refine YI fun D2 h2 _=>⟨_,rfl,ixT hq2 (qk (j:=0) rfl) (h2 _ _ (Vz fun B b1 b2=>⟨_,rfl,rfl,_,rfl,bN (dne qcm.2.2.2.1) (b2 _ ?_)⟩))⟩;refine Vz fun B b1 b2=>⟨_,rfl,rfl,_,rfl,bN (dne qcm.2.2.2.2.1) (b2 _ ?_)⟩;refine Vz fun B b1 b2=>⟨_,rfl,rfl,_,rfl,bN (dne qcm.2.2.2.2.2) (b2 _ ?_)⟩;refine Vz fun B b1 b2=>⟨_,rfl,rfl,_,rfl,bP (deq rfl) (b1 _ ?_)⟩;refine ⟨_,rfl,.inl ⟨rfl,_,SqL.of hp2⟩,v8 ⟨_,rfl,ixT hq2 (qk (j:=1) rfl) ⟨_,_,_,_,rfl,r1.same g2,p1,⋯,⋯,fun H4 q1 g4 hq1 hl4=>?_⟩⟩⟩;refine ⟨_,rfl,ixT (g4.sqT hq2) (qk (j:=3) rfl) ⟨qQ (by simp only [Ac,Ab,At,Aj,Bj,A4];omega),fun q2 hq2'=>?_⟩⟩
   have g5:=qe hq2' (.lst [.str c]);refine Wv (g5 _ _ hl4) upd_same (qQ (by simp only [Ac,Ab,At,Aj,Bj,A4];omega)) fun q3 hq3=>?_
   have g6:=qe hq3 (.lst ((Tre.brL xs1).map V.str++[.str c]));have g46:=(g4.trans g5).trans g6;refine (exd (g46 _ _ hp2) upd_same (qQ (by simp only [Ac,Ab,At,Aj,Bj,A4];omega)) ?_)
   have g7:=qL (g2.trans g46) hpf (.lst ((Tre.brL (xs.take i)).map V.str++((Tre.brL xs1).map V.str++[.str c])));have hp7:upd (upd (upd H4 q2 (.lst [.str c])) q3 (.lst ((Tre.brL xs1).map V.str++[.str c]))) pf (.lst ((Tre.brL (xs.take i)).map V.str++((Tre.brL xs1).map V.str++[.str c]))) pf=some (.lst ((Tre.brL (xs.take i)).map V.str++((Tre.brL xs1).map V.str++[.str c]))):=upd_same;generalize upd (upd (upd H4 q2 (.lst [.str c])) q3 (.lst ((Tre.brL xs1).map V.str++[.str c]))) pf (.lst ((Tre.brL (xs.take i)).map V.str++((Tre.brL xs1).map V.str++[.str c])))=H7 at g7 hp7 ⊢;refine ⟨_,rfl,.inl ⟨rfl,_,SqL.of hp7⟩,v8 ⟨_,rfl,ixT (g7.sqT hq0) (qk (j:=4) rfl) ⟨_,_,_,_,rfl,r4.same g7,p2,⋯,⋯,fun H8 q4 g8 hq4 hl8=>?_⟩⟩⟩;refine ⟨_,rfl,ixT ((g7.trans g8).sqT hq0) (qk (j:=5) rfl) ⟨_,_,_,_,rfl,r5.same (g7.trans g8),p3,⋯,⋯,fun H9 q5 g9 hq5 hl9=>?_⟩⟩;refine Wv (g9 _ _ hl8) hl9 (qQ (by simp only [Ac,Ab,At,Aj,Bj,A4];omega)) fun q6 hq6=>?_
   have ga:=qe hq6 (.lst ((Tre.brL ys1).map V.str++(Tre.brL zs1).map V.str));have g8a:=(g8.trans g9).trans ga;refine (exd (g8a _ _ hp7) upd_same (qQ (by simp only [Ac,Ab,At,Aj,Bj,A4];omega)) ?_)
   refine fin _ (qL (g7.trans g8a) hpf _) ?_ _ _;rw [upd_same,nb];simp
  | @else_ hd ts _ _ k1 k2 k3 k4 _=>
   refine rd.tp1 fun a2 ys e hq0 rs2=>?_;subst e;have hq2:=g2.sqT hq0;refine YI fun D2 h2 _=>⟨_,rfl,ixT hq2 (qk (j:=0) rfl) (h2 _ _ (Vz fun B b1 b2=>⟨_,rfl,rfl,_,rfl,bN (dne k1) (b2 _ ?_)⟩))⟩;refine Vz fun B b1 b2=>⟨_,rfl,rfl,_,rfl,bN (dne k2) (b2 _ ?_)⟩;refine Vz fun B b1 b2=>⟨_,rfl,rfl,_,rfl,bN (dne k3) (b2 _ ?_)⟩;refine Vz fun B b1 b2=>⟨_,rfl,rfl,_,rfl,bN (dne k4) (b2 _ ?_)⟩;refine fin _ g2 ?_ _ _;rw [Tre.XU k1 k2 k3 k4,A6];exact hp2
 ·obtain ⟨o2,o3,rfl,g2,hp2⟩:=h;rw [Bp] at hp2;exact ⟨_,rfl,q _ pf g2 hpf hp2⟩
theorem qfm {fB:Addr} {dB:FuncData} (F:Fun K "brought_by" "brought_by" Jf fB dB) (kB:Known K mg "brought_by" ["body"] fB dB):∀ n:Nat,Def P w K mg base n "brought_by" ["body"] (spBro K n)
 | 0=>by
  have no:∀ vs H Q E,spBro K 0 vs H Q E→False:=fun vs H Q E h=>by
   obtain ⟨x,xs,s,t,_,_,_,_,ht,_⟩:=h;omega
  exact kB.out ⟨fun vs H Q E h=>(no _ _ _ _ h).elim,fun _ _ _ _ _ _ _ _ _ _ _ _ _ h=>(no _ _ _ _ h).elim⟩
 | n+1=>kB.out (Yh F n (qfm F kB n))
theorem WO {H:Hp}:∀ {ws:List V} {ns:List PyData},Reps K H ws ns→ns.all Tre.zh=true→ws=(ns.map Tre.txt).map V.str
 | _,_,.nil,_=>rfl
 | _,_,.cons (x:=v) (d:=d) h t,n=>by
  rw [E5,Ae] at n;rw [Ba,Ba,← WO t n.2];cases h with
  | str x=>rfl
  | non=>exact absurd n.1 O0
  | bl b=>exact absurd n.1 (by intro z;cases z)
  | int i=>exact absurd n.1 (by intro z;cases z)
  | lst _ _=>exact absurd n.1 (by intro z;cases z)
  | tup _ _=>exact absurd n.1 (by intro z;cases z)
inductive spNm (K:Frag) (vs:List V) (H:Hp) (Q:VK) (E':XK):Prop
 | mk:∀ x y ns xs s t,(vs=[x,y])→(Rep K H x (.tuple ns))→(ns.all Tre.zh=true)→(ns.length≤4)→(Rep K H y (.tuple xs))→(Tre.Trl xs s t)→(s≤300)→(t≤20)→(∀ H' p,qw H H'→H p=none→H' p=some (.lst ((ns.map Tre.txt++Tre.brL xs).map V.str))→Q (.ref p) H')→spNm K vs H Q E'
theorem ZH (F:Fun K "names_of" "names_of" Vn f fd) (c:Cs K mg ad) (d_brought_by:Def P w K mg base 21 "brought_by" ["body"] (spBro K 21)):FnOk P w K mg base CX0 22 f fd ["params","body"] (spNm K):=by
 refine F.ok Zv (fun vs H Q E h=>?_) (fun cdv A outer s H vs Q E hr h=>?_)
 ·obtain ⟨x,y,ns,xs,s,t,rfl,_⟩:=h;rfl
 obtain ⟨x,y,ns,xs,s,t,rfl,hn,han,hnl,hk,tl,hs,ht,q⟩:=h;refine ⟨_,(qi (qy (qu zb (zk vc (by rfl) c.list_ WT (qb (pv 0) qc)) (pdf d_brought_by (qb (pv 1) qc))))),?_⟩
 show jb (tOp zW (tCB (fun xs H_1 Q=>∃ p ys,xs=[V.ref p]∧(SqL K H_1 p ys∨SqT K H_1 p ys)∧∀ (l:Addr),H_1 l=none→Q (V.ref l) (upd H_1 l (HO.lst ys))) (qd (qg 0) qo)) (qE (spBro K 21) [] E0 (qd (qg 1) qo))) _ _ _;obtain ⟨a,ws,rfl,hq,rs⟩:=hn.tup_inv;have e:=WO rs han;have bl:=Tre.yT _ tl (Ah _);refine ⟨_,rfl,a,ws,rfl,.inr hq,fun p1 hp1=>?_⟩;have g1:=qe hp1 (.lst ws);have h1:upd H p1 (.lst ws) p1=some (.lst ws):=upd_same;generalize upd H p1 (.lst ws)=H1 at g1 h1 ⊢;refine ⟨_,rfl,_,_,_,_,rfl,hk.same g1,tl,hs,⋯,fun H2 p2 g2 hp2 h2=>?_⟩;refine Wv (g2 _ _ h1) h2 (qQ (by rw [e];simp only [Ac,Ab,At,Aj,Bj,A4];omega)) fun p3 hp3=>?_
 refine q _ p3 ((g1.trans g2).trans (qe hp3 _)) ((g1.trans g2).free hp3) ?_;rw [upd_same,e,An]
inductive spUsed (K:Frag) (vs:List V) (H:Hp) (Q:VK) (E':XK):Prop
 | mk:∀ x xs s t,(vs=[x])→(Rep K H x (.tuple xs))→(Tre.Trl xs s t)→(s≤300)→(t≤20)→(∀ H' p,qw H H'→H p=none→H' p=some (.lst ((xs.flatMap (Tre.jg 30)).map V.str))→Q (.ref p) H')→spUsed K vs H Q E'
inductive PvU (K:Frag) (H:Hp) (x:V) (pf pa:Addr) (fin:List Str) (m:Nat) (σ:St) (H':Hp):Prop
 | mk:∀ (vs:List V) (ds:List PyData) (found:List Str) (t:Nat) (o3:Option V),(σ=[some x,some (.ref pf),some (.ref pa),o3])→(qw H H')→(H' pf=some (.lst (found.map V.str)))→(H' pa=some (.lst vs.reverse))→(Reps K H' vs ds)→(Tre.Trl ds m t)→(m≤300)→(t≤20)→(found++ds.flatMap (Tre.jg 30)=fin)→PvU K H x pf pa fin m σ H'
theorem JF (h a b:Str):inV (.str h) [.str a,.str b]=(h==a||h==b):=XI h a b
theorem Trl.nol {ds:List PyData} {s t:Nat} (h:Tre.Trl ds s t):Tre.zO ds=true:=(Tre.wv h.gd).1
def Qq (K:Frag):TS:=zQ (tBM K "list" z9 (qg 1) (qd (tOp (rIx K) (qg 3) (tC (V.int 1))) qo))
def Qp (K:Frag):TS:=zQ (tBM K "list" jT (qg 2) (qd (qak K (qd (qE (spInnerOf K) [] E0 (qd (qg 3) qo)) qo)) qo))
def Qo (K:Frag):TS:=zz (qI (tOp (rIn K true) (tOp (rIx K) (qg 3) (tC (V.int 0))) (tGT K [Str.ofString "fun",Str.ofString "loop"]))) (Qp K) zg
def Qn (K:Frag):TS:=qG (zz (qI (tOp (rIn K false) (tOp (rIx K) (qg 3) (tC (V.int 0))) (jl (qd (tC (V.str "name")) (qd (tC (V.str "set")) qo))))) (Qq K) zg) (Qo K)
def Qm (K:Frag):TS:=qG (qX (qfz K "list" qig (qg 2)) (qv 3)) (Qn K)
def Ql (K:Frag):TS:=qG (Vi (fun σ H Q=>qg 2 σ H fun x H'=>∃ k,qfq K x H' k∧Q k H') (Qm K)) (jb (qg 1))
def Qk (K:Frag):TS:=qG (qX (qak K (qd (qg 0) qo)) (qv 2)) (Ql K)
theorem QO (F:Fun K "used_in" "used_in" we f fd) (c:Cs K mg ad) (T2:Tb2 K mg) (d_inner_of:Def P w K mg base 2 "inner_of" ["part"] (spInnerOf K)):FnOk P w K mg base CX0 3 f fd ["body"] (spUsed K):=by
 refine F.ok JX (fun vs H Q E h=>?_) (fun cdv A outer s H vs Q E hr h=>?_)
 ·obtain ⟨x,xs,s,t,rfl,_⟩:=h;rfl
 obtain ⟨x,xs,s,t,rfl,hk,tl,hs,ht,q⟩:=h;refine ⟨_,(qf (pst 1 JX.nd (zj qc))
   (qf (pst 2 JX.nd (qar (K:=K) rfl rfl c.list_ c.reversed_ (qb (pv 0) qc)))
   (qf (Jr Bt (qil (K:=K) rfl (pv 2)) (qf (pst 3 JX.nd (qh2 (K:=K) rfl A5 PySem.F.slot_list_pop PySem.F.type_list_pop qet (pv 2)))
   (qf (qN (qt (yx (K:=K) rfl) (pix K (pv 3) qh) (qO (qb qp (qb qp qc))) rfl) (qi (za (JN (K:=K) rfl A5 B0 Bz zX (pv 1) (qb (pix K (pv 3) qh) qc)))) qB)
   (qi (qN (qt (ZP (K:=K) rfl) (pix K (pv 3) qh) (qen T2.INNER_KINDS) rfl) (qi (za (JN (K:=K) rfl A5 Cf Cg jv (pv 2) (qb (qar (K:=K) rfl rfl c.list_ c.reversed_ (qb (pdf d_inner_of (qb (pv 3) qc)) qc)) qc)))) qB)))))
   (qi (qy (pv 1)))))),?_⟩
 show qG (qX (Jv qo) (qv 1)) (Qk K) _ _ _;have all:=tl.uses_le 30;refine ⟨qQ O0,fun pf hpf=>?_⟩;have g1:=qe hpf (.lst []);obtain ⟨a,ws,rfl,hq,rs⟩:=hk.tup_inv;have hwl:=rs.length;have few:=tl.few;have hf1:upd H pf (.lst []) pf=some (.lst []):=upd_same;generalize upd H pf (.lst [])=H1 at g1 hf1 ⊢;refine ⟨_,rfl,a,ws,rfl,⋯,.inr (g1.sqT hq),fun pa hpa=>?_⟩;have g2:=qe hpa (.lst ws.reverse);have npa:pf≠pa:=fun z=>by rw [z] at hf1;rw [hf1] at hpa;cases hpa
 have hpa0:H pa=none:=g1.free hpa;refine ⟨PvU K H (.ref a) pf pa (xs.flatMap (Tre.jg 30)),⟨s,ws,xs,[],t,none,rfl,g1.trans g2,g2 _ _ hf1,upd_same,rs.same (g1.trans g2),tl,hs,ht,rfl⟩,?_⟩;clear g1 g2 hf1 hpa few hwl rs hq hk;rintro m σ H2 ⟨vs,ds,found,t2,o3,rfl,g2,hf2,hv2,rv,tl2,hm,ht2,hfin⟩;refine ⟨_,rfl,_,.inl ⟨_,SqL.of hv2,rfl⟩,?_⟩;have fl:found.length≤300:=by
  have:=congrArg List.length hfin;rw [Ac] at this;omega
 have vl:=rv.length;have few:=tl2.few;cases tl2 with
 | nil=>
  cases rv;refine qR rfl ⟨_,rfl,q _ pf g2 hpf ?_⟩;rw [← hfin,List.flatMap_nil,A6];exact hf2
 | @cons d ds' s1 t1 s2 t3 tr tl3=>
  refine rv.ct fun v vs' ev rv1 rv2=>?_;subst ev;refine qZ (show (!List.isEmpty _)=true by rw [C0];simp) ?_
  refine qj5 fun N hN=>?_;have elast:((v::vs').reverse)[((v::vs').reverse).length - 1]?=some v:=by
   rw [C0,Ac,At,Nat.add_sub_cancel,Cw (Ah _),Nat.sub_self];rfl
  refine ⟨_,rfl,.inl ⟨rfl,_,SqL.of hv2⟩,pa,_,v,rfl,rfl,hv2,elast,?_⟩;rw [C0,List.dropLast_concat];have hf3:upd H2 pa (.lst vs'.reverse) pf=some (.lst (found.map V.str)):=by rw [qm npa];exact hf2
  have rv3:=Reps.put (o':= .lst vs'.reverse) hv2 rv2 (Trl.nol tl3);have rd3:=Rep.put (o':= .lst vs'.reverse) hv2 rv1 tr.gd.nol;have g3:=qL g2 hpa0 (.lst vs'.reverse);have hv3:upd H2 pa (.lst vs'.reverse) pa=some (.lst vs'.reverse):=upd_same;generalize upd H2 pa (.lst vs'.reverse)=H3 at hf3 rv3 rd3 g3 hv3 ⊢;have up:=Tre.YE tr ⋯;rw [Cz,up] at hfin;clear elast rv rv1 rv2 hv2 hf2;have trS:=tr;refine tr.el fun sh hands s0 t0 es et hform tl=>Tre.WR hform fun hd ts ed=>?_;subst ed;have k60:=Tre.qa2 hform;refine rd3.tp1 fun a2 ys' e2 hq2 rs2=>?_;subst e2;have rest:∀ (H4:Hp) (fo:List Str) (D:Ends),qw H H4→H4 pf=some (.lst (fo.map V.str))→H4 pa=some (.lst vs'.reverse)→Reps K H4 vs' ds'→Rep K H4 (.ref a2) (.tuple (.str hd::ts))→fo=found++Tre.own (.tuple (.str hd::ts))→(∀ σ' H' m',m'<s0+1+s2→PvU K H (.ref a) pf pa (xs.flatMap (Tre.jg 30)) m' σ' H'→D.nx σ' H')→
    zz (qI (tOp (rIn K true) (tOp (rIx K) (qg 3) (tC (V.int 0))) (tGT K ["fun","loop"]))) (zQ (tBM K "list" jT (qg 2) (qd (qak K (qd (qE (spInnerOf K) [] E0 (qd (qg 3) qo)) qo)) qo))) zg D [some (.ref a),some (.ref pf),some (.ref pa),some (.ref a2)] H4:=fun H4 fo D g4 hf4 hv4 rv4 rd4 efo hD=>by
   have rd5:=rd4;refine rd4.tp1 fun _ ys4 e4 hq4 rs4=>?_;cases e4;refine ⟨_,rfl,ixT hq4 (qk (j:=0) rfl) fun a3 ha3=>(inS (.inr (ha3 _)) rfl rfl ⟨_,rfl,v1 (fun hn=>?_) (fun hn=>?_)⟩)⟩
   ·have hn':Tre.XL (.tuple (.str hd::ts))=false:=by
     rw [Tre.YX,← JF hd "fun" "loop"];exact D4 _ |>.mp hn
    rw [hn',if_neg Ag] at hfin;refine ⟨_,rfl,.inl ⟨rfl,_,SqL.of hv4⟩,v8 ⟨_,rfl,_,_,sh,hands,H4,rfl,qw.refl _,rd5,hform,fun H5 p5 ks g5 hp5 hl5 rk=>⟨p5,ks,rfl,?_,.inl (SqL.of hl5),fun L hL=>?_⟩⟩⟩
    ·have:=rk.length;omega
    have hkl:=rk.length;have rvl:=rv4.length;have few3:=tl3.few;have gL:=g5.trans (qe hL (.lst ks.reverse));have hvL:=gL _ _ hv4;refine (exd hvL upd_same (qQ (by simp only [Ac,Ab,At,Aj,Bj,A4];omega)) (hD _ _ (s0+s2) ⋯ ?_))
    have both:=Tre.Trl.append tl tl3;refine ⟨ks++vs',Tre.zm (.tuple (.str hd::ts))++ds',fo,_,_,rfl,qL (g4.trans gL) hpa0 _,by rw [qm npa];exact gL _ _ hf4,?_,Reps.put hvL ((rk.same gL).append (rv4.same gL)) (Trl.nol both),both,⋯,⋯,?_⟩
    ·rw [upd_same,List.reverse_append]
    ·rw [efo,Ch,← hfin];simp
   ·have hn':Tre.XL (.tuple (.str hd::ts))=true:=by
     rw [Tre.YX,← JF hd "fun" "loop"];cases e:inV (.str hd) [.str "fun",.str "loop"] with
     | true=>rfl
     | false=>exact absurd (show (!inV (.str hd) [.str "fun",.str "loop"])=true by rw [e];rfl) hn
    rw [hn',if_pos rfl,Bw] at hfin;refine hD _ _ s2 ⋯ ⟨vs',ds',fo,_,_,rfl,g4,hf4,hv4,rv4,tl3,⋯,⋯,?_⟩;rw [efo,Tre.qi2 hn',A6];exact hfin
  refine ⟨_,rfl,ixT hq2 (qk (j:=0) rfl) ⟨qQ O0,fun p1 hp1=>?_⟩⟩;have gp:=qe hp1 (.tup [.str "name",.str "set"]);refine (inS (.inr (SqT.of upd_same)) rfl rfl ⟨_,rfl,?_⟩);generalize upd H3 p1 (.tup [.str "name",.str "set"])=H4 at gp ⊢;refine v1 (fun hn=>?_) (fun hn=>?_)
  ·have hh:hd="name"∨hd="set":=by
    have z:inV (.str hd) [.str "name",.str "set"]=true:=hn;rw [JF,B4,Ax,Ax] at z;exact z
   obtain ⟨nx,r,rfl,_,eown⟩:=Tre.ye trS hh;refine rs2.ct fun y1 _ e'y1 r1 rs2=>?_;subst e'y1;obtain rfl:=r1.strI;have hf4:=gp _ _ hf3;refine ⟨_,rfl,.inl ⟨rfl,_,SqL.of hf4⟩,v8 ⟨_,rfl,ixT (gp.sqT hq2) (qk (j:=1) rfl) (apd hf4 (Jx (by simp only [Ac,Ab,At,Aj,Bj,A4];omega)) ?_)⟩⟩
   refine rest _ (found++[nx]) _ (qL (g3.trans gp) hpf _) (by rw [upd_same,An];rfl) (by rw [qm (Ne.symm npa)];exact gp _ _ hv3) (Reps.put hf4 (rv3.same gp) (Trl.nol tl3)) (Rep.put hf4 (rd3.same gp) trS.gd.nol) (by rw [eown]) fun σ' H' m' hm h=>hN _ _ ⟨m',⋯,h⟩
  ·have hh:¬ (hd="name"∨hd="set"):=fun z=>by
    refine hn (show inV (.str hd) [.str "name",.str "set"]=true from ?_);rw [JF,B4,Ax,Ax];exact z
   refine rest H4 found _ (g3.trans gp) (gp _ _ hf3) (gp _ _ hv3) (rv3.same gp) (rd3.same gp) (by rw [Tre.yf hh,A6]) fun σ' H' m' hm h=>hN _ _ ⟨m',⋯,h⟩
end
end Mine
namespace L2
open PySem PySem.Spec PyProof.Rows
section
variable {K:Frag} {H H':Hp}
def Tp (H H':Hp):Prop:=∀ b xs,Rd H b (.tup xs)→Rd H' b (.tup xs)
def qk0:HO→Bool
 | .tup _=>false
 | .frz _ _=>false
 | _=>true
theorem Tp.refl (H:Hp):Tp H H:=fun _ _ h=>h
theorem Tp.trans {H2:Hp} (a:Tp H H') (b:Tp H' H2):Tp H H2:=fun c o e=>b c o (a c o e)
theorem Tp.of (g:qw H H'):Tp H H':=fun b xs h=>by
 rcases h with h | ⟨o,h⟩
 ·exact .inl (g _ _ h)
 ·exact .inr ⟨o,g _ _ h⟩
theorem Tp.put {p:Addr} {o o':HO} (hp:H p=some o) (n:qk0 o=true):Tp H (upd H p o'):=fun b xs h=>by
 have nb:b≠p:=fun z=>by
  subst z;rcases h with h | ⟨ob,h⟩
  ·rw [hp] at h;cases h;cases n
  ·rw [hp] at h;cases h;cases n
 unfold Rd;rw [qm nb];exact h
theorem Tp.new {p:Addr} {o':HO} (hp:H p=none):Tp H (upd H p o'):=fun b xs h=>by
 have nb:b≠p:=fun z=>by
  subst z;rcases h with h | ⟨ob,h⟩
  ·rw [hp] at h;cases h
  ·rw [hp] at h;cases h
 unfold Rd;rw [qm nb];exact h
theorem SqT.tp {b:Addr} {xs:List V} (g:Tp H H') (h:SqT K H b xs):SqT K H' b xs:=by
 rcases h with h | h
 ·exact .inl (g _ _ h)
 ·exact .inr h
theorem Rep.tp (g:Tp H H') {x:V} {d:PyData} (h:Rep K H x d) (n:Tre.noL d=true):Rep K H' x d:=h.tups (fun h=>h.tp g) n
theorem Reps.tp (g:Tp H H') {xs:List V} {ds:List PyData} (h:Reps K H xs ds) (n:Tre.zO ds=true):Reps K H' xs ds:=h.tups (fun h=>h.tp g) n
theorem wo {κ:Type} [DecidableEq κ] (kvs:List (κ×V)) (k:κ) (v:V):(je kvs k v).map (·.1)=if k∈kvs.map (·.1) then kvs.map (·.1) else kvs.map (·.1)++[k]:=by
 have e:(kvs.any fun kv=>decide (kv.1=k))=true↔k∈kvs.map (·.1):=by
  rw [De,By];exact ⟨fun ⟨x,hx,h⟩=>⟨x,hx,Ay h⟩,fun ⟨x,hx,h⟩=>⟨x,hx,Ak h⟩⟩
 unfold je
 by_cases h:(kvs.any fun kv=>decide (kv.1=k))=true
 ·rw [if_pos h,if_pos (e.mp h),Bu];refine List.map_congr_left fun x _=>?_;show (if x.1=k then (x.1,v) else x).1=x.1
  split <;> rfl
 ·rw [if_neg h,if_neg fun z=>h (e.mpr z),An];rfl
theorem Zh {κ:Type} [DecidableEq κ] (kvs:List (κ×V)) (k:κ):(vj kvs k).isSome=true↔k∈kvs.map (·.1):=by
 rw [← vi,De,By];exact ⟨fun ⟨x,hx,h⟩=>⟨x,hx,Ay h⟩,fun ⟨x,hx,h⟩=>⟨x,hx,Ak h⟩⟩
theorem ym {α:Type} [BEq α] [LawfulBEq α]:∀ (ks L:List α),ks.Nodup→(∀ x∈ks,x∈L)→ks.length≤L.length
 | [],_,_,_=>Bm _
 | k::r,L,hn,hs=>by
  rw [Db] at hn;have hk:=hs k Au;have q:=ym r (L.erase k) hn.2 fun x hx=>(List.mem_erase_of_ne (show x≠k from fun z=>hn.1 (z▸hx))).mpr (hs x (Am _ hx));rw [List.length_erase_of_mem hk] at q;have:0<L.length:=List.length_pos_of_mem hk;rw [Aj];omega
def Ju {α:Type} (H:Hp) (a:Addr) (f:α→Key) (M:List α):Prop:=∃ (kvs:List (Key×V)) (ks:List α),H a=some (.dK kvs)∧kvs.map (·.1)=ks.map f∧ks.Nodup∧∀ k∈ks,k∈M
theorem Ju.same {α:Type} {a:Addr} {f:α→Key} {M:List α} (g:qw H H') (h:Ju H a f M):Ju H' a f M:=by
 obtain ⟨kvs,ks,e,r⟩:=h;exact ⟨kvs,ks,g _ _ e,r⟩
theorem Ju.put {α:Type} {a:Addr} {f:α→Key} {M:List α} {kvs:List (Key×V)} (e:H a=some (.dK kvs)) (h:Ju H a f M) {k:α} (hk:k∈M) (v:V):Ju (upd H a (.dK (je kvs (f k) v))) a f M:=by
 obtain ⟨kvs',ks,e',h1,h2,h3⟩:=h;rw [e] at e';cases e'
 by_cases hm:f k∈kvs.map (·.1)
 ·exact ⟨_,ks,upd_same,by rw [wo,if_pos hm];exact h1,h2,h3⟩
 refine ⟨_,ks++[k],upd_same,?_,?_,fun x hx=>?_⟩
 ·rw [wo,if_neg hm,h1,An];rfl
 ·rw [List.nodup_append];refine ⟨h2,by simp,fun x hx y hy z=>?_⟩
  cases Az.mp hy;subst z;exact hm (by rw [h1];exact Ci hx)
 ·rcases Bl.mp hx with q | q
  ·exact h3 x q
  ·cases Az.mp q;exact hk
theorem Ju.len {α:Type} [BEq α] [LawfulBEq α] {a:Addr} {f:α→Key} {M:List α} (h:Ju H a f M):∃ (kvs:List (Key×V)) (ks:List α),H a=some (.dK kvs)∧kvs.map (·.1)=ks.map f∧ks.length≤M.length∧kvs.length≤M.length:=by
 obtain ⟨kvs,ks,e,h1,h2,h3⟩:=h;have q:=ym ks M h2 h3;have e2:=congrArg List.length h1;rw [Ab,Ab] at e2;exact ⟨kvs,ks,e,h1,q,⋯⟩
end
end L2
namespace Mine
open PySem L2
structure SA where
 p:Addr
 n:Addr
 u:Addr
 b:Addr
 t:Addr
 k:Str
def oV:Option Nat→V
 | none=> .non
 | some j=> .int (j:Nat)
def sFl (o:V) (x:SA):List (Str×V):=[("kind",.str x.k),("outer",o),("names",.ref x.n),("used",.ref x.u),("boxed",.ref x.b),("taken",.ref x.t)]
theorem qf7 (o:V) (x:SA):(sFl o x).lookup ("kind":Str)=some (.str x.k):=rfl
theorem Zt (o:V) (x:SA):(sFl o x).lookup ("outer":Str)=some o:=by rfl
theorem VS (o:V) (x:SA):(sFl o x).lookup ("names":Str)=some (.ref x.n):=by rfl
theorem qao (o:V) (x:SA):(sFl o x).lookup ("used":Str)=some (.ref x.u):=by rfl
theorem Zu (o:V) (x:SA):(sFl o x).lookup ("boxed":Str)=some (.ref x.b):=by rfl
theorem Zs (o:V) (x:SA):(sFl o x).lookup ("taken":Str)=some (.ref x.t):=by rfl
theorem qf6 (k n u b t o:V):qC "taken" t (qC "boxed" b (qC "used" u (qC "names" n (qC "outer" o (qC "kind" k [])))))=([("kind",k),("outer",o),("names",n),("used",u),("boxed",b),("taken",t)]:List (Str×V)):=by rfl
theorem pl0:([]:List (Str×V)).length≤0:=Ah _
theorem pls {n:Nat} {k:Str} {v:V} {fs:List (Str×V)} (h:fs.length≤n):(qC k v fs).length≤n+1:=by
 induction fs generalizing n with
 | nil=>exact Cd (Bm _)
 | cons p r ih=>
  obtain ⟨g,x⟩:=p;unfold qC;split
  ·exact Dm h
  ·cases n with
   | zero=>cases h
   | succ n=>exact Cd (ih (Nat.le_of_succ_le_succ h))
theorem plk {n:Nat} {fs:List (Str×V)} (hn:n<1000) (h:fs.length≤n):fs.length<1000:=C4 h hn
structure ScAt (C:Addr) (H:Hp) (x:SA) (r:Tre.Row):Prop where
 ob:∃ dx,H x.p=some (.ins C dx (sFl (oV r.outer) x))
 nm:H x.n=some (.lst (r.names.map V.str))
 us:H x.u=some (.lst (r.used.map V.str))
theorem ScAt.same {C:Addr} {H H':Hp} {x:SA} {r:Tre.Row} (g:qw H H') (h:ScAt C H x r):ScAt C H' x r:=by
 obtain ⟨⟨dx,a⟩,b,c⟩:=h;exact ⟨⟨dx,g _ _ a⟩,g _ _ b,g _ _ c⟩
def yr:List Int:=(List.range 60).map Int.ofNat
structure Scs (C:Addr) (L:List Str) (H:Hp) (xs:List SA) (rs:List Tre.Row):Prop where
 len:xs.length=rs.length
 sc:∀ (i:Nat) (x:SA) (r:Tre.Row),xs[i]?=some x→rs[i]?=some r→ScAt C H x r
 bx:∀ x∈xs,Ju H x.b Sum.inl yr
 tk:∀ x∈xs,Ju H x.t Sum.inr L
 ne:∀ x∈xs,∀ y∈xs,x.b≠y.t
theorem Scs.same {C:Addr} {L:List Str} {H H':Hp} {xs:List SA} {rs:List Tre.Row} (g:qw H H') (h:Scs C L H xs rs):Scs C L H' xs rs:=
 ⟨h.len,fun i x r a b=>(h.sc i x r a b).same g,fun x hx=>(h.bx x hx).same g,fun x hx=>(h.tk x hx).same g,h.ne⟩
theorem Scs.get {C:Addr} {L:List Str} {H:Hp} {xs:List SA} {rs:List Tre.Row} (h:Scs C L H xs rs) {i:Nat} {r:Tre.Row} (hr:rs[i]?=some r):∃ x,xs[i]?=some x∧ScAt C H x r:=by
 have hi:i<rs.length:=by
  obtain ⟨q,_⟩:=B2.mp hr;exact q
 have e:xs[i]?=some (xs[i]'(by have:=h.len;omega)):=Aq (by have:=h.len;omega)
 exact ⟨_,e,h.sc _ _ _ e hr⟩
abbrev JJ (xs:List SA):List V:=xs.map fun x=> .ref x.p
section
variable {P:Program} {w:World} {K:Frag} {mg:Str→Option Value} {base:Heap} {f:Addr} {fd:FuncData} {ad:Ad}
inductive spScI (K:Frag) (C:Addr) (vs:List V) (H:Hp) (Q:VK) (E':XK):Prop
 | mk:∀ (p dx:Addr) (v:V) (e:PyData) (i:Nat),(vs=[.ref p,v])→(H p=some (.ins C dx []))→(Rep K H v e)→(Tre.noL e=true)→(Tre.FnW e i)→(∀ (H':Hp) (x:SA),x.p=p→ScAt C H' x (Tre.YK e)→H' x.b=some (.dK [])→H' x.t=some (.dK [])→x.b≠x.t→H x.b=none→H x.t=none→(∀ b o,b≠p→H b=some o→H' b=some o)→Q .non H')→spScI K C vs H Q E'
def qaa (K:Frag):TS:=qG (QG K (qg 0) Xd (Str.ofString "boxed")) (QG K (qg 0) Xd (Str.ofString "taken"))
def Q9 (K:Frag):TS:=qG (QG K (qg 0) (qE (spUsed K) [] E0 (qd (tOp (rIx K) (qg 1) (tC (V.int 2))) qo)) (Str.ofString "used")) (qaa K)
def Q8 (K:Frag):TS:=qG (QG K (qg 0) (qE (spNm K) [] E0 (qd (tOp (rIx K) (qg 1) (tC (V.int 1))) (qd (tOp (rIx K) (qg 1) (tC (V.int 2))) qo))) (Str.ofString "names")) (Q9 K)
def Q7 (K:Frag):TS:=qG (QG K (qg 0) (tOp (rIx K) (qg 1) (tC (V.int 3))) (Str.ofString "outer")) (Q8 K)
theorem qce (F:Fun K "__init__" "Scope.__init__" W6 f fd) (c:Cs K mg ad) (d_names_of:Def P w K mg base 22 "names_of" ["params","body"] (spNm K)) (d_used_in:Def P w K mg base 3 "used_in" ["body"] (spUsed K)):FnOk P w K mg base CX0 23 f fd ["self","function"] (spScI K ad.Scope):=by
 refine F.ok qb3 (fun vs H Q E h=>?_) (fun cdv A outer s H vs Q E hr h=>?_)
 ·obtain ⟨p,dx,v,e,i,rfl,_⟩:=h;rfl
 obtain ⟨p,dx,v,e,i,rfl,hp,re,nol,fw,q⟩:=h;refine ⟨_,(qf (wg (pv 0) (pix K (pv 1) qh) rfl)
   (qf (wg (pv 0) (pix K (pv 1) qh) rfl)
   (qf (wg (pv 0) (pdf d_names_of (qb (pix K (pv 1) qh) (qb (pix K (pv 1) qh) qc))) rfl)
   (qf (wg (pv 0) (pdf d_used_in (qb (pix K (pv 1) qh) qc)) rfl)
   (qf (wg (pv 0) yd rfl)
   (qi (wg (pv 0) yd rfl))))))),?_⟩
 show qG (QG K (qg 0) (tOp (rIx K) (qg 1) (tC (V.int 0))) (Str.ofString "kind")) (Q7 K) _ _ _;obtain ⟨hd,ns,xs,o,s1,t1,rfl,hn1,hn2,tl,hs,ht,ho⟩:=fw.ex;rw [Tre.noL,Tre.zO,Tre.zO,Tre.zO,Tre.zO,Ae,Ae,Ae,Ae] at nol;obtain ⟨_,nl1,nl2,nl3,_⟩:=nol;refine re.tp4 fun a y1 y2 y3 e' hq r1 r2 r3=>?_;subst e';have ey:y3=oV (Tre.YK (.tuple [.str hd,.tuple ns,.tuple xs,o])).outer:=by
  rcases ho with rfl | ⟨j,rfl,_⟩
  ·cases r3;rfl
  ·cases r3;rfl
 refine ⟨_,rfl,ixT hq (qk (j:=0) rfl) ⟨_,rfl,p,_,dx,[],rfl,hp,c.cl,c.aK,O0,?_⟩⟩;have k1:∀ b o,b≠p→H b=some o→upd H p (.ins ad.Scope dx (qC "kind" (.str hd) [])) b=some o:=fun b o n e=>by rw [qm n];exact e
 have t1':Tp H (upd H p (.ins ad.Scope dx (qC "kind" (.str hd) []))):=Tp.put hp rfl;have p1:upd H p (.ins ad.Scope dx (qC "kind" (.str hd) [])) p=some (.ins ad.Scope dx (qC "kind" (.str hd) [])):=upd_same;have f1:∀ b,upd H p (.ins ad.Scope dx (qC "kind" (.str hd) [])) b=none→H b=none:=fun b e=>by
  by_cases z:b=p
  ·rw [z,upd_same] at e;cases e
  ·rw [qm z] at e;exact e
 dsimp only;generalize upd H p (.ins ad.Scope dx (qC "kind" (.str hd) []))=H1 at k1 t1' p1 f1 ⊢;refine ⟨_,rfl,ixT (hq.tp t1') (qk (j:=3) rfl) ⟨_,rfl,p,_,dx,_,rfl,p1,c.cl,c.aO,plk (n:=1) O0 (pls pl0),?_⟩⟩;have k2:∀ b o,b≠p→H1 b=some o→upd H1 p (.ins ad.Scope dx (qC "outer" y3 (qC "kind" (.str hd) []))) b=some o:=fun b o n e=>by rw [qm n];exact e
 have t2':Tp H (upd H1 p (.ins ad.Scope dx (qC "outer" y3 (qC "kind" (.str hd) [])))):=t1'.trans (Tp.put p1 rfl);have p2:upd H1 p (.ins ad.Scope dx (qC "outer" y3 (qC "kind" (.str hd) []))) p=some (.ins ad.Scope dx (qC "outer" y3 (qC "kind" (.str hd) []))):=upd_same;have f2:∀ b,upd H1 p (.ins ad.Scope dx (qC "outer" y3 (qC "kind" (.str hd) []))) b=none→H b=none:=fun b e=>by
  by_cases z:b=p
  ·rw [z,upd_same] at e;cases e
  ·rw [qm z] at e;exact f1 b e
 dsimp only;generalize upd H1 p (.ins ad.Scope dx (qC "outer" y3 (qC "kind" (.str hd) [])))=H2 at k2 t2' p2 f2 ⊢;refine ⟨_,rfl,ixT (hq.tp t2') (qk (j:=1) rfl) ⟨_,rfl,ixT (hq.tp t2') (qk (j:=2) rfl) ⟨_,_,ns,xs,s1,t1,rfl,r1.tp t2' nl1,hn1,hn2,r2.tp t2' nl2,tl,hs,ht,fun H3 n g3 hn h3=>?_⟩⟩⟩;have np:n≠p:=Ne.symm (qx p2 hn);refine ⟨_,rfl,p,_,dx,_,rfl,g3 _ _ p2,c.cl,c.aN,plk (n:=2) O0 (pls (pls pl0)),?_⟩;have k4:∀ b o,b≠p→H3 b=some o→upd H3 p (.ins ad.Scope dx (qC "names" (.ref n) (qC "outer" y3 (qC "kind" (.str hd) [])))) b=some o:=fun b o z e=>by rw [qm z];exact e
 have t4:Tp H (upd H3 p (.ins ad.Scope dx (qC "names" (.ref n) (qC "outer" y3 (qC "kind" (.str hd) []))))):=(t2'.trans (Tp.of g3)).trans (Tp.put (g3 _ _ p2) rfl);have p4:upd H3 p (.ins ad.Scope dx (qC "names" (.ref n) (qC "outer" y3 (qC "kind" (.str hd) [])))) p=some (.ins ad.Scope dx (qC "names" (.ref n) (qC "outer" y3 (qC "kind" (.str hd) [])))):=upd_same;have f4:∀ b,upd H3 p (.ins ad.Scope dx (qC "names" (.ref n) (qC "outer" y3 (qC "kind" (.str hd) [])))) b=none→H b=none:=fun b e=>by
  by_cases z:b=p
  ·rw [z,upd_same] at e;cases e
  ·rw [qm z] at e;exact f2 b (g3.free e)
 dsimp only;generalize upd H3 p (.ins ad.Scope dx (qC "names" (.ref n) (qC "outer" y3 (qC "kind" (.str hd) []))))=H4 at k4 t4 p4 f4 ⊢;refine ⟨_,rfl,ixT (hq.tp t4) (qk (j:=2) rfl) ⟨_,xs,s1,t1,rfl,r2.tp t4 nl2,tl,hs,ht,fun H5 u g5 hu h5=>?_⟩⟩;have up:u≠p:=Ne.symm (qx p4 hu);refine ⟨_,rfl,p,_,dx,_,rfl,g5 _ _ p4,c.cl,c.aU,plk (n:=3) O0 (pls (pls (pls pl0))),?_⟩;have k6:∀ b o,b≠p→H5 b=some o→upd H5 p (.ins ad.Scope dx (qC "used" (.ref u) (qC "names" (.ref n) (qC "outer" y3 (qC "kind" (.str hd) []))))) b=some o:=fun b o z e=>by rw [qm z];exact e
 have p6:upd H5 p (.ins ad.Scope dx (qC "used" (.ref u) (qC "names" (.ref n) (qC "outer" y3 (qC "kind" (.str hd) []))))) p=some (.ins ad.Scope dx (qC "used" (.ref u) (qC "names" (.ref n) (qC "outer" y3 (qC "kind" (.str hd) []))))):=upd_same;have f6:∀ b,upd H5 p (.ins ad.Scope dx (qC "used" (.ref u) (qC "names" (.ref n) (qC "outer" y3 (qC "kind" (.str hd) []))))) b=none→H b=none:=fun b e=>by
  by_cases z:b=p
  ·rw [z,upd_same] at e;cases e
  ·rw [qm z] at e;exact f4 b (g5.free e)
 dsimp only;generalize upd H5 p (.ins ad.Scope dx (qC "used" (.ref u) (qC "names" (.ref n) (qC "outer" y3 (qC "kind" (.str hd) [])))))=H6 at k6 p6 f6 ⊢;intro b hb;have bp:b≠p:=Ne.symm (qx p6 hb);refine ⟨_,rfl,p,_,dx,_,rfl,(by rw [qm (Ne.symm bp)];exact p6),c.cl,c.aB,plk (n:=4) O0 (pls (pls (pls (pls pl0)))),?_⟩
 dsimp only;have k7:∀ c o,c≠p→H6 c=some o→upd (upd H6 b (.dK [])) p (.ins ad.Scope dx (qC "boxed" (.ref b) (qC "used" (.ref u) (qC "names" (.ref n) (qC "outer" y3 (qC "kind" (.str hd) [])))))) c=some o:=fun c o z e=>by rw [qm z];exact qe hb _ _ _ e
 have b7:upd (upd H6 b (.dK [])) p (.ins ad.Scope dx (qC "boxed" (.ref b) (qC "used" (.ref u) (qC "names" (.ref n) (qC "outer" y3 (qC "kind" (.str hd) [])))))) b=some (.dK []):=by rw [qm bp];exact upd_same
 have p7:upd (upd H6 b (.dK [])) p (.ins ad.Scope dx (qC "boxed" (.ref b) (qC "used" (.ref u) (qC "names" (.ref n) (qC "outer" y3 (qC "kind" (.str hd) [])))))) p=some (.ins ad.Scope dx (qC "boxed" (.ref b) (qC "used" (.ref u) (qC "names" (.ref n) (qC "outer" y3 (qC "kind" (.str hd) [])))))):=upd_same;have f7:∀ c,upd (upd H6 b (.dK [])) p (.ins ad.Scope dx (qC "boxed" (.ref b) (qC "used" (.ref u) (qC "names" (.ref n) (qC "outer" y3 (qC "kind" (.str hd) [])))))) c=none→H c=none:=fun c e=>by
  by_cases z:c=p
  ·rw [z,upd_same] at e;cases e
  ·rw [qm z] at e;exact f6 c ((qe hb _).free e)
 generalize upd (upd H6 b (.dK [])) p (.ins ad.Scope dx (qC "boxed" (.ref b) (qC "used" (.ref u) (qC "names" (.ref n) (qC "outer" y3 (qC "kind" (.str hd) []))))))=H7 at k7 b7 p7 f7 ⊢;intro t ht';have tp:t≠p:=Ne.symm (qx p7 ht');refine ⟨_,rfl,p,_,dx,_,rfl,(by rw [qm (Ne.symm tp)];exact p7),c.cl,c.aT,plk (n:=5) O0 (pls (pls (pls (pls (pls pl0))))),?_⟩
 have k8:∀ c o,c≠p→H7 c=some o→upd (upd H7 t (.dK [])) p (.ins ad.Scope dx (qC "taken" (.ref t) (qC "boxed" (.ref b) (qC "used" (.ref u) (qC "names" (.ref n) (qC "outer" y3 (qC "kind" (.str hd) []))))))) c=some o:=fun c o z e=>by rw [qm z];exact qe ht' _ _ _ e
 have kk:∀ c o,c≠p→H3 c=some o→upd (upd H7 t (.dK [])) p (.ins ad.Scope dx (qC "taken" (.ref t) (qC "boxed" (.ref b) (qC "used" (.ref u) (qC "names" (.ref n) (qC "outer" y3 (qC "kind" (.str hd) []))))))) c=some o:=fun c o z e=>k8 c o z (k7 c o z (k6 c o z (g5 _ _ (k4 c o z e))));refine q _ ⟨p,n,u,b,t,hd⟩ rfl ⟨⟨dx,?_⟩,kk _ _ np h3,k8 _ _ up (k7 _ _ up (k6 _ _ up h5))⟩ (k8 _ _ bp b7) ?_ (qx b7 ht') (f6 b hb) (f7 t ht') (fun c o z e=>kk c o z (g3 _ _ (k2 c o z (k1 c o z e))))
 ·rw [upd_same,qf6,ey];rfl
 ·rw [qm tp];exact upd_same
theorem yw (h:Str) (l:List Str):inV (.str h) (l.map V.str)=l.contains h:=by
 rw [VZ,Cc,Co,De];exact ⟨fun ⟨y,hy,e⟩=>Ax.mp e▸hy,fun hy=>⟨h,hy,Ax.mpr rfl⟩⟩
theorem XQ (l:List Str):(l.map V.str).all vf=true:=by
 rw [Dx];exact A3.mpr fun _ _=>rfl
inductive spOwn (K:Frag) (C:Addr) (vs:List V) (H:Hp) (Q:VK) (E':XK):Prop
 | mk:∀ (ps:Addr) (i:Nat) (nm:Str) (L:List Str) (xs:List SA) (rs:List Tre.Row),(vs=[.ref ps,.int (i:Nat),.str nm])→(SqL K H ps (JJ xs))→(Scs C L H xs rs)→(Tre.Qw rs)→(i<rs.length)→(Q (oV (Tre.zP rs i nm)) H)→spOwn K C vs H Q E'
inductive Iv_NamD_0 (H:Hp) (ps:Addr) (i:Nat) (nm:Str) (rs:List Tre.Row) (m:Nat) (σ:St) (H':Hp):Prop
 | mk:(H'=H)→(((∃ j:Nat,m=j+1∧j<rs.length∧σ=[some (.ref ps),some (.int (j:Nat)),some (.str nm)]∧Tre.zP rs j nm=Tre.zP rs i nm)∨(σ=[some (.ref ps),some .non,some (.str nm)]∧Tre.zP rs i nm=none)))→Iv_NamD_0 H ps i nm rs m σ H'
def X4 (K:Frag):TS:=qX (V9 K (tOp (rIx K) (qg 0) (qg 1)) (Str.ofString "outer")) (qv 1)
theorem ZG (F:Fun K "owner_of" "owner_of" Vm f fd) (c:Cs K mg ad):FnOk P w K mg base CX0 1 f fd ["scopes","number","name"] (spOwn K ad.Scope):=by
 refine F.ok Wa (fun vs H Q E h=>?_) (fun cdv A outer s H vs Q E hr h=>?_)
 ·obtain ⟨ps,i,nm,L,xs,rs,rfl,_⟩:=h;rfl
 obtain ⟨ps,i,nm,L,xs,rs,rfl,hS,S,bk,hi,q⟩:=h;refine ⟨_,(qf (Jr Bt (PW.pt (J4 (qt qav (pv 1) J6 (qD _)) (JB (qt (ZP (K:=K) rfl) (pv 2) (jN (pix K (pv 0) (pv 1)) rfl) rfl)))) (qi (pst 1 Wa.nd (jN (pix K (pv 0) (pv 1)) rfl))))
   (qi (qy (pv 1)))),?_⟩
 show qG (Vi (VP (qI (tOp (fun x y H Q=>y=V.non∧Q (V.bl !decide (x=V.non)) H) (qg 1) (tC V.non))) (qI (tOp (rIn K true) (qg 2) (V9 K (tOp (rIx K) (qg 0) (qg 1)) (Str.ofString "names"))))) (X4 K)) (jb (qg 1)) _ _ _;refine ⟨(Iv_NamD_0 H ps i nm rs),⟨i+1,rfl,.inl ⟨i,rfl,hi,rfl,rfl⟩⟩,?_⟩;rintro m σ H' ⟨rfl,⟨j,rfl,hj,rfl,hh⟩ | ⟨rfl,hn⟩⟩
 ·have hr':rs[j]?=some rs[j]:=Aq hj;obtain ⟨x,hx,sc⟩:=S.get hr';obtain ⟨⟨dx,ob⟩,hnm,hus⟩:=sc;have hv:(JJ xs)[j]?=some (.ref x.p):=by rw [A0,hx];rfl
  have step:=Tre.wu bk (x:=nm) hr';refine ⟨_,rfl,rfl,_,rfl,qZ rfl ?_⟩;refine ⟨_,rfl,_,rfl,_,rfl,ixL hS (qk (j:=j) hv) ⟨x.p,_,dx,_,_,rfl,ob,c.cl,c.aN,VS _ _,x.n,_,rfl,.inl (SqL.of hnm),rfl,XQ _,_,rfl,?_⟩⟩;rw [if_pos rfl,yw]
  by_cases hc:rs[j].names.contains nm=true
  ·rw [hc];refine qR rfl ⟨_,rfl,?_⟩;rw [if_pos hc] at step;rw [← hh,step] at q;exact q
  ·rw [Bo.mpr hc];rw [if_neg hc] at step;refine qZ rfl ⟨fun σ' H'=>∃ m',m'<j+1∧_,fun σ' H' h=>h,?_⟩;refine ⟨_,rfl,_,rfl,ixL hS (qk (j:=j) hv) ⟨x.p,_,dx,_,_,rfl,ob,c.cl,c.aO,Zt _ _,?_⟩⟩;cases eo:rs[j].outer with
   | none=>
    rw [eo] at step;exact ⟨0,Nat.succ_pos _,rfl,.inr ⟨rfl,hh.symm.trans step⟩⟩
   | some k=>
    rw [eo] at step;have hk:=bk j _ hr' k eo;exact ⟨k+1,⋯,rfl,.inl ⟨k,rfl,⋯,rfl,step.symm.trans hh⟩⟩
 ·refine ⟨_,rfl,rfl,_,rfl,qR rfl ?_⟩;refine qR rfl ⟨_,rfl,?_⟩;rw [hn] at q;exact q
def qab (ad:Ad):TS:=qhu ad.BadName (qg 0) (qg 1) (Str.ofString "name")
theorem qcf (F:Fun K "__init__" "BadName.__init__" W7 f fd) (c:Cs K mg ad) {fI:Addr} (oi:yU K ad.BadName fI):FnOk P w K mg base CX0 1 f fd ["self","name"] (qd7 ad.BadName "name"):=by
 refine F.ok qb4 (fun vs H Q E h=>?_) (fun cdv A outer s H vs Q E hr h=>?_)
 ·obtain ⟨a,y,rfl,_⟩:=h;rfl
 obtain ⟨a,y,rfl,hy,ha,q⟩:=h;refine ⟨_,(qf (za (qeo (Vs c.v_LoomError) c.bi oi (qb (pv 0) (qb (qix (pv 1)) qc)))) (qi (qgn c.xs_BadName (pv 0) (pv 1)))),?_⟩;show qG (zQ (QB ad.BadName (qd (qg 0) (qd (qka (Str.ofString "the name ") (Str.ofString " is refused") (qg 1)) qo)))) (qab ad) _ _ _;refine ⟨_,rfl,_,rfl,y,rfl,hy,a,_,rfl,ha,?_⟩;exact ⟨_,rfl,_,rfl,a,rfl,ha,fun dx hdx n=>q dx hdx n⟩
structure IniB (P:Program) (w:World) (K:Frag) (mg:Str→Option Value) (base:Heap) (C:Addr):Prop where
 ex:∃ (fI:Addr) (fdI:FuncData),yU K C fI∧FnOk P w K mg base CX0 1 fI fdI ["self","name"] (qd7 C "name")∧Jd K fdI ["self","name"] []
structure RowOk (L:List Str) (r:Tre.Row):Prop where
 nl:∀ x∈r.names,x.length≤1000∧x∈L∧PyData.strOk x=true
 ul:∀ x∈r.used,x.length≤1000∧x∈L∧PyData.strOk x=true
 nn:r.names.length≤400
 un:r.used.length≤400
inductive spRef (K:Frag) (ad:Ad) (vs:List V) (H:Hp) (Q:VK) (E:XK):Prop
 | mk:∀ (ps:Addr) (i:Nat) (L:List Str) (xs:List SA) (rs:List Tre.Row) (r:Tre.Row),(vs=[.ref ps,.int (i:Nat)])→(SqL K H ps (JJ xs))→(Scs ad.Scope L H xs rs)→(Tre.Qw rs)→(rs[i]?=some r)→(RowOk L r)→((Tre.bad rs i r=[]→∀ H',qw H H'→Q .non H'))→((∀ y q,Tre.bad rs i r=y::q→∀ H' dx,qw H H'→H' dx=some (.xd [("name",.str y)])→E (.ref ad.BadName) (some dx) H'))→spRef K ad vs H Q E
theorem qcl (rs:List Tre.Row) (i:Nat) (x:Str) (l:List Str):Tre.lost rs i (x::l)=if (Tre.zP rs i x).isNone=true then x::Tre.lost rs i l else Tre.lost rs i l:=by
 unfold Tre.lost;rw [List.filter_cons]
inductive Iv_NamD_2 (H:Hp) (ps:Addr) (i:Nat) (rs:List Tre.Row) (r:Tre.Row) (d:Addr) (j:Nat) (σ:St) (H':Hp):Prop
 | mk:∀ o3,(σ=[some (.ref ps),some (.int (i:Nat)),some (.ref d),o3])→(qw H H')→(Tre.lost rs i (r.used.drop j)=Tre.lost rs i r.used)→Iv_NamD_2 H ps i rs r d j σ H'
inductive Iv_NamD_1 (H:Hp) (ps:Addr) (i:Nat) (r:Tre.Row) (d:Addr) (j:Nat) (σ:St) (H':Hp):Prop
 | mk:∀ o3 kvs,(σ=[some (.ref ps),some (.int (i:Nat)),some (.ref d),o3])→(qw H H')→(H' d=some (.dK kvs))→(kvs.map (·.1)=(r.names.take j).map Sum.inr)→(Tre.zp (r.names.take j) (r.names.drop j)=Tre.zp [] r.names)→Iv_NamD_1 H ps i r d j σ H'
def wF (E:XK) (ad:Ad):TS:=Xn (qd (qg 3) qo) (Str.ofString "name") ad.BadName E
def wE:TS:=YJ (qg 2) (qg 3) (tC (V.bl true))
def wD (E:XK) (ad:Ad):TS:=qG (zz (tB (qkb (qg 3) (qg 2))) (wF E ad) zg) wE
def wC (E:XK) (ad:Ad):TS:=Xn (qd (qg 3) qo) (Str.ofString "name") ad.BadName E
def wB (E:XK) (K:Frag) (ad:Ad):TS:=zz (qI (tOp (fun x y H Q=>y=V.non∧Q (V.bl (decide (x=V.non))) H) (qE (spOwn K ad.Scope) [] E0 (qd (qg 0) (qd (qg 1) (qd (qg 3) qo)))) (tC V.non))) (wC E ad) zg
def wA (E:XK) (K:Frag) (ad:Ad):TS:=Vj (v3 K (V9 K (tOp (rIx K) (qg 0) (qg 1)) (Str.ofString "used"))) (qv 3) (wB E K ad)
def wz (E:XK) (K:Frag) (ad:Ad):TS:=qG (Vj (v3 K (V9 K (tOp (rIx K) (qg 0) (qg 1)) (Str.ofString "names"))) (qv 3) (wD E ad)) (wA E K ad)
theorem Wp (F:Fun K "refuse_names" "refuse_names" Jm f fd) (c:Cs K mg ad) (I:IniB P w K mg base ad.BadName) (d_owner_of:Def P w K mg base 1 "owner_of" ["scopes","number","name"] (spOwn K ad.Scope)):FnOk P w K mg base (CX2 P w) 5 f fd ["scopes","number"] (spRef K ad):=by
 refine F.ok2 (k:=4) jo (fun vs H Q E h=>?_) (fun cdv A outer s H vs Q E hr h=>?_)
 ·obtain ⟨ps,i,L,xs,rs,r,rfl,_⟩:=h;rfl
 obtain ⟨ps,i,L,xs,rs,r,rfl,hS,S,bk,hri,ok,q1,q2⟩:=h;have hu:=yz hr;obtain ⟨fI,fdI,oi,fi,bi⟩:=I.ex;have I_BadName:=And.intro fi bi;refine ⟨_,(qf (pst 2 jo.nd yd)
   (qf (jf Ei rfl (JP (K:=K) rfl (jN (pix K (pv 0) (pv 1)) rfl)) (pgn 3 jo.nd) (qf (qN (qin (qi0 hu (pv 3) (pv 2))) (qi (YM oi I_BadName.1 I_BadName.2 (hr.mono (by first | decide | omega)) c.m_BadName (qb (pv 3) qc))) qB)
   (qi (vP hu (pv 2) (pv 3) jZ rfl))))
   (qi (jf Ei rfl (JP (K:=K) rfl (jN (pix K (pv 0) (pv 1)) rfl)) (pgn 3 jo.nd) (qi (qN (qt QM (pdf d_owner_of (qb (pv 0) (qb (pv 1) (qb (pv 3) qc)))) J6 (qD _)) (qi (YM oi I_BadName.1 I_BadName.2 (hr.mono (by first | decide | omega)) c.m_BadName (qb (pv 3) qc))) qB)))))),?_⟩
 show qG (qX Xd (qv 2)) (wz E K ad) _ _ _;clear hu;have hi:i<rs.length:=(B2.mp hri).1;obtain ⟨x,hx,⟨⟨dx0,ob⟩,hnm,hus⟩⟩:=S.get hri;have hv:(JJ xs)[i]?=some (.ref x.p):=by rw [A0,hx];rfl
 intro d hd;have g0:=qe hd (.dK []);have h0:upd H d (.dK []) d=some (.dK []):=upd_same;generalize upd H d (.dK [])=H0 at g0 h0 ⊢;refine ⟨_,rfl,_,rfl,ixL (g0.seq hS) (qk (j:=i) hv) ⟨x.p,_,dx0,_,_,rfl,g0 _ _ ob,c.cl,c.aN,VS _ _,.inl ⟨x.n,rfl,⟨_,SqL.of (g0 _ _ hnm)⟩,?_⟩⟩⟩;have nn:=ok.nn;refine JM r.names.length (Iv_NamD_1 H ps i r d) ?_ (fun j σ H2 hj h=>?_) (fun σ H2 h=>?_)
 ·exact ⟨none,[],rfl,g0,h0,rfl,rfl⟩
 ·obtain ⟨o3,kvs,rfl,g2,hd2,hk,htw⟩:=h;obtain ⟨nm,ej⟩:=va (l:=r.names) (i:=j) hj;have hxj:(r.names.map V.str)[j]?=some (.str nm):=by rw [A0,ej];rfl
  refine ⟨⟨_,_,SqL.of (g2 _ _ hnm),hxj⟩,fun v H3 yl D' hn _=>?_⟩;obtain ⟨rfl,hv3⟩:=yl;have ev:=hxj.symm.trans (hv3 _ (SqL.of (g2 _ _ hnm)));cases ev;have hmem:nm∈r.names:=A9 ej;have htk:r.names.take (j+1)=r.names.take j++[nm]:=by rw [Bb,ej];rfl
  rw [yM ej,Tre.zp] at htw;have kin:(vj kvs (Sum.inr nm)).isSome=(r.names.take j).contains nm:=by
   rw [Cc,Zh,hk,Co,By];exact ⟨fun ⟨y,hy,e⟩=>Sum.inr.inj e▸hy,fun hy=>⟨nm,hy,rfl⟩⟩
  refine ⟨_,rfl,_,rfl,d,_,rfl,j9.k (k:=Sum.inr nm) hd2,_,rfl,?_⟩;rw [kin]
  by_cases hc:(r.names.take j).contains nm=true
  ·rw [if_pos hc] at htw;refine qZ hc ⟨_,rfl,nm,rfl,(ok.nl nm hmem).1,fun dx hdx=>?_⟩;refine q2 nm _ (by unfold Tre.bad;rw [← htw];rfl) _ dx (g2.trans (qe hdx _)) upd_same
  ·rw [if_neg hc] at htw;refine qR (Bo.mpr hc) ?_;have kl:kvs.length≤400:=by
    have e:=congrArg List.length hk;rw [Ab,Ab] at e;have:=List.length_take_le' j r.names;omega
   refine ⟨_,rfl,_,rfl,d,_,rfl,YD.k (k:=Sum.inr nm) hd2 (Jx ⋯),hn _ _ ⟨_,_,rfl,qL g2 hd _,upd_same,?_,?_⟩⟩
   ·rw [wo,if_neg,hk,htk,An]
    ·rfl
    ·rw [← Zh,kin];exact hc
   ·rw [htk];exact htw
 ·obtain ⟨o3,kvs,rfl,g2,hd2,hk,htw⟩:=h;rw [List.drop_length,Bp,Tre.zp] at htw;refine ⟨⟨_,SqL.of (g2 _ _ hnm),by rw [Ab];exact Ah _⟩,?_⟩
  refine ⟨_,rfl,_,rfl,ixL (g2.seq hS) (qk (j:=i) hv) ⟨x.p,_,dx0,_,_,rfl,g2 _ _ ob,c.cl,c.aU,qao _ _,.inl ⟨x.u,rfl,⟨_,SqL.of (g2 _ _ hus)⟩,?_⟩⟩⟩;refine JM r.used.length (Iv_NamD_2 H ps i rs r d) ?_ (fun j σ H3 hj h=>?_) (fun σ H3 h=>?_)
  ·exact ⟨_,rfl,g2,rfl⟩
  ·obtain ⟨o3,rfl,g3,hl⟩:=h;obtain ⟨nm,ej⟩:=va (l:=r.used) (i:=j) hj;have hxj:(r.used.map V.str)[j]?=some (.str nm):=by rw [A0,ej];rfl
   refine ⟨⟨_,_,SqL.of (g3 _ _ hus),hxj⟩,fun v H4 yl D' hn _=>?_⟩;obtain ⟨rfl,hv3⟩:=yl;have ev:=hxj.symm.trans (hv3 _ (SqL.of (g3 _ _ hus)));cases ev;have hmem:nm∈r.used:=A9 ej;rw [yM ej,qcl] at hl;refine ⟨_,rfl,_,rfl,_,rfl,ps,i,nm,L,xs,rs,rfl,g3.seq hS,S.same g3,bk,hi,rfl,_,rfl,?_⟩;cases eh:Tre.zP rs i nm with
   | none=>
    rw [eh] at hl;refine qZ rfl ⟨_,rfl,nm,rfl,(ok.ul nm hmem).1,fun dx hdx=>?_⟩;refine q2 nm (Tre.lost rs i (r.used.drop (j+1))) ?_ _ dx (g3.trans (qe hdx _)) upd_same;unfold Tre.bad;rw [← htw,← hl];rfl
   | some k=>
    rw [eh] at hl;exact qR rfl (hn _ _ ⟨_,rfl,g3,hl⟩)
  ·obtain ⟨o3,rfl,g3,hl⟩:=h;rw [List.drop_length] at hl;refine ⟨⟨_,SqL.of (g3 _ _ hus),by rw [Ab];exact Ah _⟩,q1 ?_ _ g3⟩
   unfold Tre.bad;rw [← htw,← hl];rfl
end
end Mine
namespace Tre
open PySem
section
variable {L:List Str}
theorem JT:∀ {xs:List PyData},zT L xs=true→∀ x∈xs,inL L x=true
 | [],_,x,hx=>by cases hx
 | y::r,h,x,hx=>by
  rw [zT,Ae] at h;rcases Ap.mp hx with rfl | hx
  ·exact h.1
  ·exact JT h.2 x hx
theorem QX {t e:PyData} {sh u:Str} (ft:inL L t=true) (h:(e,u)∈ql t sh):inL L e=true:=by
 unfold ql at h;split at h
 ·rw [Az] at h;cases h;exact ft
 ·split at h
  ·cases t with
   | tuple xs=>
    obtain ⟨x,hx,ex⟩:=By.mp h;rw [inL] at ft;have q:=JT ft x hx;cases ex;exact q
   | _=>cases h
  ·cases h
theorem qa3 {d e:PyData} (f:inL L d=true) (h:e∈zm d):inL L e=true:=by
 unfold zm at h;obtain ⟨⟨e',u⟩,h2,rfl⟩:=By.mp h;clear h;unfold zi at h2;split at h2
 ·rename_i hd ts;obtain ⟨p,hz,hp⟩:=C2.mp h2;rw [inL,zT,Ae] at f;exact QX (JT f.2 p.1 (Dj hz).1) hp
 ·cases h2
def Nm (L:List Str) (x:Str):Prop:=qY x=true∧x∈L
theorem XJ {x:Str} (h:inL L (.str x)=true):x∈L:=by
 rw [inL] at h;exact Co.mp h
theorem qbi {x:Str}:∀ {xs:List PyData},x∈brL xs→∃ y∈xs,x∈brS y
 | [],h=>by
  rw [brL] at h;cases h
 | y::r,h=>by
  rw [brL] at h;rcases Bl.mp h with h | h
  ·exact ⟨y,Au ..,h⟩
  ·obtain ⟨z,hz,h⟩:=qbi h;exact ⟨z,Am _ hz,h⟩
theorem qjw {n:Nat} (IH:∀ {xs:List PyData} {s t:Nat},Trl xs s t→t≤n→zT L xs=true→∀ x∈brL xs,Nm L x) {y:PyData} {s0 t0:Nat} (h1:Tr y s0 t0) (ht:t0≤n+1) (hy:inL L y=true):∀ x∈brS y,Nm L x:=by
 cases wa h1 with
 | let_ hn=>
  rw [Q4];intro x hx;cases Az.mp hx;rw [inL,zT,zT,Ae,Ae] at hy;exact ⟨hn,XJ hy.2.1⟩
 | if_ _ _ p q e l1 l2=>
  rw [inL,zT,zT,zT,zT,Ae,Ae,Ae,Ae,inL,inL] at hy;rw [qfn];intro x hx;rcases Bl.mp hx with hx | hx
  ·exact IH p ⋯ hy.2.2.1 x hx
  ·exact IH q ⋯ hy.2.2.2.1 x hx
 | while_ _ p e l1=>
  rw [inL,zT,zT,zT,Ae,Ae,Ae] at hy;have h3:=hy.2.2.1;rw [inL] at h3;rw [yS];exact IH p ⋯ h3
 | try_ hc _ _ _ p q r e l1 l2 l3=>
  rw [inL,zT,zT,zT,zT,zT,zT,Ae,Ae,Ae,Ae,Ae,Ae] at hy;obtain ⟨_,y1,_,y3,y4,y5,_⟩:=hy;rw [inL] at y1 y4 y5;rw [Q3];intro x hx;rcases Bl.mp hx with hx | hx
  ·exact IH p ⋯ y1 x hx
  ·rcases Ap.mp hx with rfl | hx
   ·exact ⟨hc,XJ y3⟩
   ·rcases Bl.mp hx with hx | hx
    ·exact IH q ⋯ y4 x hx
    ·exact IH r ⋯ y5 x hx
 | else_ k1 k2 k3 k4 _=>
  rw [XU k1 k2 k3 k4];intro x hx;cases hx
theorem qh1:∀ (n:Nat) {xs:List PyData} {s t:Nat},Trl xs s t→t≤n→zT L xs=true→∀ x∈brL xs,Nm L x
 | 0,xs,s,t,h,ht,hi=>by
  have:t=0:=⋯;subst this;cases h.zero;intro x hx;rw [brL] at hx;cases hx
 | n+1,xs,s,t,h,ht,hi=>fun x hx=>by
  obtain ⟨y,hy,hx⟩:=qbi hx;obtain ⟨s1,t1,tr,_,ht1⟩:=h.mem y hy;exact qjw (qh1 n) tr (Av ht1 ht) (JT hi y hy) x hx
theorem qag:∀ (n:Nat) {d:PyData} {s t:Nat},Tr d s t→inL L d=true→∀ x∈jg n d,Nm L x
 | 0,d,s,t,h,hi=>by
  rw [WM,WX];intro x hx;cases hx
 | n+1,d,s,t,h,hi=>by
  rw [JO];intro x hx;split at hx
  ·cases hx
  ·rcases Bl.mp hx with hx | hx
   ·have h0:=h;cases h with
    | mk hf tl=>
     obtain ⟨hd,ts,fs,l,rfl,_⟩:=qV hf
     by_cases hh:hd="name"∨hd="set"
     ·obtain ⟨y,r,rfl,hy,e⟩:=ye h0 hh;rw [e] at hx;cases Az.mp hx;rw [inL,zT,zT,Ae,Ae] at hi;exact ⟨hy,XJ hi.2.1⟩
     ·rw [yf hh] at hx;cases hx
   ·obtain ⟨e,he,hx⟩:=C2.mp hx;cases h with
    | mk hf tl=>
     obtain ⟨s',t',h',_,_⟩:=tl.mem e he;exact qag n h' (qa3 hi he) x hx
theorem qj1 {d o:PyData} {acc:List PyData} (hd:inL L d=true) (ho:inL L o=true) (ha:∀ e∈acc,inL L e=true):(∀ e∈zx d o acc,inL L e=true)∧inL L (ja d o acc)=true:=by
 unfold zx ja;split
 ·refine ⟨fun e he=>?_,by rw [inL];all_goals (intro _ z;cases z)⟩
  rcases Bl.mp he with he | he
  ·exact ha e he
  ·cases Az.mp he;unfold fnOf;split
   ·rw [inL,zT,zT,zT,Ae,Ae,Ae] at hd;rw [inL,zT,zT,zT,zT,zT,hd.1,hd.2.1,hd.2.2.1,ho];rfl
   ·rfl
 ·exact ⟨ha,ho⟩
theorem qba:∀ (n:Nat) {ds:List PyData} {o:PyData} {acc:List PyData},(∀ d∈ds,inL L d=true)→inL L o=true→(∀ e∈acc,inL L e=true)→∀ e∈jO n ds o acc,inL L e=true
 | 0,ds,o,acc,hd,ho,ha=>by
  have e:=vY ds o acc;rw [e];exact ha
 | n+1,ds,o,acc,hd,ho,ha=>by
  induction ds generalizing acc with
  | nil=>exact ha
  | cons d r ih=>
   unfold jO;rw [B3,jL];obtain ⟨a1,a2⟩:=qj1 (hd d Au) ho ha;exact ih _ (fun x hx=>hd x (Am _ hx)) (qba n (fun x hx=>qa3 (hd d Au) hx) a2 a1)
theorem qhc {d:PyData} (h:inL L d=true):∀ e∈funs d,inL L e=true:=by
 have e:funs d=jO 30 [d] .none []:=rfl;rw [e];refine qba 30 (fun x hx=>by cases Az.mp hx;exact h) rfl (fun e he=>by cases he)
end
end Tre
namespace Mine
open PySem L2
theorem vy {x:Str} (h:Tre.qY x=true):x.length≤1000:=by
 unfold Tre.qY at h;rw [Ae,Ae] at h;have:=Ay h.1.2;omega
theorem qie {L:List Str} {e:PyData} {i:Nat} (fw:Tre.FnW e i) (hi:Tre.inL L e=true):RowOk L (Tre.YK e):=by
 obtain ⟨h,ns,xs,o,s,t,rfl,hn,hl,tl,hs,ht,_⟩:=fw.ex;rw [Tre.inL,Tre.zT,Tre.zT,Tre.zT,Tre.zT,Ae,Ae,Ae,Ae,Tre.inL] at hi;obtain ⟨_,h1,h2,_⟩:=hi;rw [Tre.inL] at h1 h2;have bl:=Tre.yT _ tl (Ah _);have ul:=tl.uses_le 30;refine ⟨fun x hx=>?_,fun x hx=>?_,?_,?_⟩
 ·rcases Bl.mp hx with hx | hx
  ·obtain ⟨d,hd,rfl⟩:=By.mp hx;have n1:=A3.mp hn d hd;have i1:=Tre.JT h1 d hd;cases d with
   | str y=>exact ⟨vy n1,Tre.XJ i1,Tre.vS n1⟩
   | _=>cases n1
  ·have q:=Tre.qh1 _ tl (Ah _) h2 x hx;exact ⟨vy q.1,q.2,Tre.vS q.1⟩
 ·obtain ⟨d,hd,hx⟩:=C2.mp hx;obtain ⟨s',t',h',_,_⟩:=tl.mem d hd;have q:=Tre.qag 30 h' (Tre.JT h2 d hd) x hx;exact ⟨vy q.1,q.2,Tre.vS q.1⟩
 ·show (ns.map Tre.txt++Tre.brL xs).length≤400;rw [Ac,Ab];omega
 ·show (xs.flatMap (Tre.jg 30)).length≤400;omega
end Mine
namespace L2
open PySem PySem.Spec PyProof.Rows
def Nd (H H':Hp):Prop:=∀ a o,(∀ kvs,o≠ .dK kvs)→H a=some o→H' a=some o
theorem Nd.refl (H:Hp):Nd H H:=fun _ _ _ h=>h
theorem Nd.trans {H H1 H2:Hp} (a:Nd H H1) (b:Nd H1 H2):Nd H H2:=fun c o n h=>b c o n (a c o n h)
theorem Nd.put {H:Hp} {p:Addr} {kvs:List (Key×V)} {o':HO} (hp:H p=some (.dK kvs)):Nd H (upd H p o'):=fun a o n h=>by
 have na:a≠p:=fun z=>by
  rw [z,hp] at h;cases h;exact n _ rfl
 rw [qm na];exact h
theorem Ju.ne {α:Type} {H:Hp} {a p:Addr} {f:α→Key} {M:List α} {o':HO} (n:a≠p) (h:Ju H a f M):Ju (upd H p o') a f M:=by
 obtain ⟨kvs,ks,e,r⟩:=h;exact ⟨kvs,ks,by rw [qm n];exact e,r⟩
end L2
namespace Mine
open PySem L2
section
variable {P:Program} {w:World} {K:Frag} {mg:Str→Option Value} {base:Heap} {f:Addr} {fd:FuncData} {ad:Ad}
theorem ScAt.nd {C:Addr} {H H':Hp} {x:SA} {r:Tre.Row} (g:Nd H H') (h:ScAt C H x r):ScAt C H' x r:=by
 obtain ⟨⟨dx,a⟩,b,c⟩:=h;exact ⟨⟨dx,g _ _ (fun _ z=>by cases z) a⟩,g _ _ (fun _ z=>by cases z) b,g _ _ (fun _ z=>by cases z) c⟩
structure Stays (H0s:Hp→Prop) (H H':Hp):Prop where
 nd:Nd H H'
 sm:∀ H0,H0s H0→qw H0 H→qw H0 H'
def qde (xs:List SA) (H0:Hp):Prop:=∀ x∈xs,H0 x.b=none∧H0 x.t=none
theorem Stays.refl (F:Hp→Prop) (H:Hp):Stays F H H:=⟨Nd.refl _,fun _ _ h=>h⟩
theorem Stays.trans {F:Hp→Prop} {H H1 H2:Hp} (a:Stays F H H1) (b:Stays F H1 H2):Stays F H H2:=⟨a.nd.trans b.nd,fun H0 h g=>b.sm H0 h (a.sm H0 h g)⟩
theorem Scs.box {C:Addr} {L:List Str} {H:Hp} {xs:List SA} {rs:List Tre.Row} (S:Scs C L H xs rs) {x:SA} (hx:x∈xs) {k:Int} (hk:k∈yr) (v:V):∃ kvs,H x.b=some (.dK kvs)∧kvs.length≤60∧Scs C L (upd H x.b (.dK (je kvs (Sum.inl k) v))) xs rs∧Stays (qde xs) H (upd H x.b (.dK (je kvs (Sum.inl k) v))):=by
 obtain ⟨kvs,ks,e,_,_,l2⟩:=(S.bx x hx).len;have g:Nd H (upd H x.b (.dK (je kvs (Sum.inl k) v))):=Nd.put e;refine ⟨kvs,e,Av l2 O0,⟨S.len,fun i y r a b=>(S.sc i y r a b).nd g,fun y hy=>?_,fun y hy=>(S.tk y hy).ne (Ne.symm (S.ne x hx y hy)),S.ne⟩,g,fun H0 h0 gs=>qL gs (h0 x hx).1 _⟩
 by_cases z:y.b=x.b
 ·rw [z];exact (S.bx x hx).put e hk v
 ·exact (S.bx y hy).ne z
theorem Scs.take {C:Addr} {L:List Str} {H:Hp} {xs:List SA} {rs:List Tre.Row} (S:Scs C L H xs rs) {x:SA} (hx:x∈xs) {k:Str} (hk:k∈L) (hl:L.length≤60) (v:V):∃ kvs,H x.t=some (.dK kvs)∧kvs.length≤60∧Scs C L (upd H x.t (.dK (je kvs (Sum.inr k) v))) xs rs∧Stays (qde xs) H (upd H x.t (.dK (je kvs (Sum.inr k) v))):=by
 obtain ⟨kvs,ks,e,_,_,l2⟩:=(S.tk x hx).len;have g:Nd H (upd H x.t (.dK (je kvs (Sum.inr k) v))):=Nd.put e;refine ⟨kvs,e,Av l2 hl,⟨S.len,fun i y r a b=>(S.sc i y r a b).nd g,fun y hy=>(S.bx y hy).ne (S.ne y hy x hx),fun y hy=>?_,S.ne⟩,g,fun H0 h0 gs=>qL gs (h0 x hx).2 _⟩
 by_cases z:y.t=x.t
 ·rw [z];exact (S.tk x hx).put e hk v
 ·exact (S.tk y hy).ne z
theorem in60 {n:Nat} (h:n<60):((n:Nat):Int)∈yr:=By.mpr ⟨n,Dg.mpr h,rfl⟩
inductive spTake (K:Frag) (C:Addr) (vs:List V) (H:Hp) (Q:VK) (E':XK):Prop
 | mk:∀ (ps:Addr) (i:Nat) (nm:Str) (L:List Str) (xs:List SA) (rs:List Tre.Row) (k:Nat),(vs=[.ref ps,.int (i:Nat),.str nm])→(H ps=some (.lst (JJ xs)))→(Scs C L H xs rs)→(Tre.Qw rs)→(i<rs.length)→(nm∈L)→(L.length≤60)→((∀ r∈rs,r.names.length≤59))→(Tre.zP rs i nm=some k)→(∀ H',Scs C L H' xs rs→Stays (qde xs) H H'→Q .non H')→spTake K C vs H Q E'
inductive Iv_NamF_0 (ad:Ad) (H:Hp) (ps:Addr) (nm:Str) (L:List Str) (xs:List SA) (rs:List Tre.Row) (k:Nat) (m:Nat) (σ:St) (H':Hp):Prop
 | mk:∀ (j:Nat),(m=j)→(j<rs.length)→(σ=[some (.ref ps),some (.int (j:Nat)),some (.str nm),some (.int (k:Nat))])→(Tre.zP rs j nm=some k)→(Scs ad.Scope L H' xs rs)→(Stays (qde xs) H H')→Iv_NamF_0 ad H ps nm L xs rs k m σ H'
def Yr (K:Frag):TS:=qX (V9 K (tOp (rIx K) (qg 0) (qg 1)) (Str.ofString "outer")) (qv 1)
def Yq (K:Frag):TS:=qG (YJ (V9 K (tOp (rIx K) (qg 0) (qg 1)) (Str.ofString "taken")) (qg 2) (tC (V.bl true))) (Yr K)
def Yp (K:Frag):TS:=Vi (qI (tOp rNe (qg 1) (qg 3))) (Yq K)
def Yo (K:Frag):TS:=qG (YJ (V9 K (tOp (rIx K) (qg 0) (qg 3)) (Str.ofString "boxed")) (tBM K "list" (fun x xs H Q=>∃ l ys k,x=V.ref l∧xs=[V.str k]∧SqL K H l (List.map V.str ys)∧k∈ys∧ys.length≤1000∧Q (V.int ↑ (List.idxOf k ys)) H) (V9 K (tOp (rIx K) (qg 0) (qg 3)) (Str.ofString "names")) (qd (qg 2) qo)) (tC (V.bl true))) (Yp K)
def Yn (K:Frag):TS:=qG (zz (qI (tOp rEq (qg 3) (qg 1))) qho zg) (Yo K)
theorem Xv (F:Fun K "take_name" "take_name" vq f fd) (c:Cs K mg ad) (d_owner_of:Def P w K mg base 1 "owner_of" ["scopes","number","name"] (spOwn K ad.Scope)):FnOk P w K mg base CX0 2 f fd ["scopes","number","name"] (spTake K ad.Scope):=by
 refine F.ok JY (fun vs H Q E h=>?_) (fun cdv A outer s H vs Q E hr h=>?_)
 ·obtain ⟨ps,i,nm,L,xs,rs,k,rfl,_⟩:=h;rfl
 obtain ⟨ps,i,nm,L,xs,rs,k,rfl,hps,S,bk,hi,hnm,hL,hn60,hh,q⟩:=h;have hu:=yz hr;refine ⟨_,(qf (pst 3 JY.nd (pdf d_owner_of (qb (pv 0) (qb (pv 1) (qb (pv 2) qc)))))
   (qf (qN (qt zy (pv 3) (pv 1) (qD _)) (qi qgp) qB)
   (qf (vP hu (jN (pix K (pv 0) (pv 3)) rfl) (JN (K:=K) rfl A5 PySem.F.slot_list_index PySem.F.type_list_index (qci (K:=K) rfl) (jN (pix K (pv 0) (pv 3)) rfl) (qb (pv 2) qc)) jZ rfl)
   (qi (Jr Bt (qt qeq (pv 1) (pv 3) (qD _)) (qf (vP hu (jN (pix K (pv 0) (pv 1)) rfl) (pv 2) jZ rfl)
   (qi (pst 1 JY.nd (jN (pix K (pv 0) (pv 1)) rfl))))))))),?_⟩
 show qG (qX (qE (spOwn K ad.Scope) [] E0 (qd (qg 0) (qd (qg 1) (qd (qg 2) qo)))) (qv 3)) (Yn K) _ _ _;clear hu;refine ⟨_,rfl,_,rfl,_,rfl,ps,i,nm,L,xs,rs,rfl,SqL.of hps,S,bk,hi,?_⟩;rw [hh];refine ⟨_,rfl,_,rfl,rfl,_,rfl,?_⟩
 by_cases hki:k=i
 ·subst hki;refine qZ (show decide _=true from Ak rfl) ?_;exact q H S (Stays.refl _ _)
 refine qR (show decide _=false from As fun z=>hki (by have:=V.int.inj z;omega)) ?_
 obtain ⟨r,hrk,hck⟩:=Tre.yA _ _ hh;obtain ⟨x,hx,⟨⟨dx,ob⟩,hn1,hus⟩⟩:=S.get hrk;have hxm:=A9 hx;have hv:(JJ xs)[k]?=some (.ref x.p):=by rw [A0,hx];rfl
 have hmem:nm∈r.names:=Co.mp hck;have hlen:=hn60 r (A9 hrk);have hidx:r.names.idxOf nm<r.names.length:=List.idxOf_lt_length_iff.mpr hmem;obtain ⟨kvs,hb,hkl,S2,st2⟩:=S.box hxm (in60 (n:=r.names.idxOf nm) ⋯) (.bl true);refine ⟨_,rfl,_,rfl,ixL (SqL.of hps) (qk (j:=k) hv) ⟨x.p,_,dx,_,_,rfl,ob,c.cl,c.aB,Zu _ _,?_⟩⟩;refine ⟨_,rfl,_,rfl,ixL (SqL.of hps) (qk (j:=k) hv) ⟨x.p,_,dx,_,_,rfl,ob,c.cl,c.aN,VS _ _,.inl ⟨rfl,_,SqL.of hn1⟩,v8 ⟨_,rfl,x.n,r.names,nm,rfl,rfl,SqL.of hn1,hmem,⋯,x.b,_,rfl,YD.k (k:=Sum.inl _) hb (Jx ⋯),?_⟩⟩⟩;dsimp only;generalize upd H x.b (.dK (je kvs (Sum.inl ((r.names.idxOf nm:Nat):Int)) (.bl true)))=H2 at S2 st2 ⊢;refine ⟨(Iv_NamF_0 ad H ps nm L xs rs k),⟨i,i,rfl,hi,rfl,hh,S2,st2⟩,?_⟩;rintro m σ H' ⟨j,rfl,hj,rfl,hhj,S3,st3⟩;refine ⟨_,rfl,_,rfl,rfl,_,rfl,?_⟩
 by_cases hjk:m=k
 ·subst hjk;refine qR (show (!decide _)=false by rw [Ak rfl];rfl) ?_
  exact q H' S3 st3
 refine qZ (show (!decide _)=true by rw [As fun z=>hjk (by have:=V.int.inj z;omega)];rfl) ⟨fun σ' H'=>∃ m',m'<m∧_,fun σ' H' h=>h,?_⟩
 have hrj:rs[m]?=some rs[m]:=Aq hj;obtain ⟨y,hy,⟨⟨dy,oy⟩,hny,huy⟩⟩:=S3.get hrj;have hvy:(JJ xs)[m]?=some (.ref y.p):=by rw [A0,hy];rfl
 have hps3:=st3.nd _ _ (fun _ z=>by cases z) hps
 obtain ⟨kvt,ht,hkt,S4,st4⟩:=S3.take (A9 hy) hnm hL (.bl true);refine ⟨_,rfl,_,rfl,ixL (SqL.of hps3) (qk (j:=m) hvy) ⟨y.p,_,dy,_,_,rfl,oy,c.cl,c.aT,Zs _ _,_,rfl,y.t,_,rfl,YD.k (k:=Sum.inr nm) ht (Jx ⋯),?_⟩⟩;have step:=Tre.wu bk (x:=nm) hrj;rw [hhj] at step;have hcn:¬ rs[m].names.contains nm=true:=fun z=>by
  rw [if_pos z] at step;exact hjk (Be step).symm
 rw [if_neg hcn] at step;have hps4:=st4.nd _ _ (fun _ z=>by cases z) hps3
 have oy4:=st4.nd _ _ (fun _ z=>by cases z) oy
 refine ⟨_,rfl,_,rfl,ixL (SqL.of hps4) (qk (j:=m) hvy) ⟨y.p,_,dy,_,_,rfl,oy4,c.cl,c.aO,Zt _ _,?_⟩⟩;cases eo:rs[m].outer with
 | none=>rw [eo] at step;cases step
 | some j'=>
  rw [eo] at step;have hlt:=bk m _ hrj j' eo;exact ⟨j',hlt,j',rfl,⋯,rfl,step.symm,S4,st3.trans st4⟩
inductive spShow (C:Addr) (vs:List V) (H:Hp) (Q:VK) (E':XK):Prop
 | mk:∀ (x:SA) (r:Tre.Row) (L:List Str),(vs=[.ref x.p])→(ScAt C H x r)→(Ju H x.b Sum.inl yr)→(Ju H x.t Sum.inr L)→(L.length≤60)→(∀ H' v,qw H H'→Q v H')→spShow C vs H Q E'
theorem wk (F:Fun K "shown_scope" "Scope.shown_scope" j6 f fd) (c:Cs K mg ad):FnOk P w K mg base CX0 1 f fd ["self"] (spShow ad.Scope):=by
 refine F.ok wc (fun vs H Q E h=>?_) (fun cdv A outer s H vs Q E hr h=>?_)
 ·obtain ⟨x,r,L,rfl,_⟩:=h;rfl
 obtain ⟨x,r,L,rfl,⟨⟨dx,ob⟩,hnm,hus⟩,db,dt,hL,q⟩:=h;refine ⟨_,(qi (qy (qO (qb (jN (pv 0) rfl) (qb (zk (Jw (K:=K) rfl) (by rfl) c.tuple_ zH (qb (jN (pv 0) rfl) qc)) (qb (zk (Jw (K:=K) rfl) (by rfl) c.tuple_ zH (qb (qz (X0 rfl) (by rfl) c.sorted_ Y4 (qb (jN (pv 0) rfl) qc)) qc)) (qb (zk (Jw (K:=K) rfl) (by rfl) c.tuple_ zH (qb (qz (XZ rfl) (by rfl) c.sorted_ Y4 (qb (jN (pv 0) rfl) qc)) qc)) qc))))))),?_⟩
 show jb (jl (qd (V9 K (qg 0) (Str.ofString "kind")) (qd (tCB (fun xs H Q=>∃ p ys,xs=[V.ref p]∧((SqL K H p ys∧∀ (l:Addr),H l=none→Q (V.ref l) (upd H l (HO.tup ys)))∨SqT K H p ys∧Q (V.ref p) H)) (qd (V9 K (qg 0) (Str.ofString "names")) qo)) (qd (tCB (fun xs H Q=>∃ p ys,xs=[V.ref p]∧((SqL K H p ys∧∀ (l:Addr),H l=none→Q (V.ref l) (upd H l (HO.tup ys)))∨SqT K H p ys∧Q (V.ref p) H)) (qd (tCB (fun xs H Q=>∃ d kvs ks,xs=[V.ref d]∧H d=some (HO.dK kvs)∧List.map (fun x=>x.fst) kvs=List.map Sum.inl ks∧ks.length<64∧∀ (ns:List Int),ns.Perm ks→List.Pairwise (fun x1 x2=>x1≤x2) ns→∀ (l:Addr),H l=none→Q (V.ref l) (upd H l (HO.lst (List.map V.int ns)))) (qd (V9 K (qg 0) (Str.ofString "boxed")) qo)) qo)) (qd (tCB (fun xs H Q=>∃ p ys,xs=[V.ref p]∧((SqL K H p ys∧∀ (l:Addr),H l=none→Q (V.ref l) (upd H l (HO.tup ys)))∨SqT K H p ys∧Q (V.ref p) H)) (qd (tCB (fun xs H Q=>∃ d kvs ks,xs=[V.ref d]∧H d=some (HO.dK kvs)∧List.map (fun x=>x.fst) kvs=List.map Sum.inr ks∧ks.length<64∧∀ (ns:List Str),ns.Perm ks→∀ (l:Addr),H l=none→Q (V.ref l) (upd H l (HO.lst (List.map V.str ns)))) (qd (V9 K (qg 0) (Str.ofString "taken")) qo)) qo)) qo))))) _ _ _;obtain ⟨kb,ksb,eb,hb1,hb2,_⟩:=db.len;obtain ⟨kt,kst,et,ht1,ht2,_⟩:=dt.len;have i60:yr.length=60:=∅;refine ⟨_,rfl,x.p,_,dx,_,_,rfl,ob,c.cl,c.aK,qf7 _ _,?_⟩;refine ⟨_,rfl,x.p,_,dx,_,_,rfl,ob,c.cl,c.aN,VS _ _,x.n,_,rfl,.inl ⟨SqL.of hnm,fun l1 hl1=>?_⟩⟩;have g1:=qe hl1 (.tup (r.names.map V.str));generalize upd H l1 (.tup (r.names.map V.str))=H1 at g1 ⊢;refine ⟨_,rfl,x.p,_,dx,_,_,rfl,g1 _ _ ob,c.cl,c.aB,Zu _ _,x.b,kb,ksb,rfl,g1 _ _ eb,hb1,⋯,fun ns _ _ l2 hl2=>⟨l2,_,rfl,.inl ⟨SqL.of upd_same,fun l3 hl3=>?_⟩⟩⟩;have g2:=g1.trans ((qe hl2 (.lst (ns.map V.int))).trans (qe hl3 (.tup (ns.map V.int))));generalize upd (upd H1 l2 (.lst (ns.map V.int))) l3 (.tup (ns.map V.int))=H2 at g2 ⊢;refine ⟨_,rfl,x.p,_,dx,_,_,rfl,g2 _ _ ob,c.cl,c.aT,Zs _ _,x.t,kt,kst,rfl,g2 _ _ et,ht1,⋯,fun ms _ l4 hl4=>⟨l4,_,rfl,.inl ⟨SqL.of upd_same,fun l5 hl5=>?_⟩⟩⟩;have g3:=g2.trans ((qe hl4 (.lst (ms.map V.str))).trans (qe hl5 (.tup (ms.map V.str))));refine ⟨qQ (show 4≤2000 from O0),fun l6 hl6=>q _ _ (g3.trans (qe hl6 _))⟩
theorem Scs.snoc {C:Addr} {L:List Str} {H H':Hp} {xs:List SA} {rs:List Tre.Row} {x:SA} {r:Tre.Row} (S:Scs C L H xs rs) (g:qw H H') (sc:ScAt C H' x r) (hb:H' x.b=some (.dK [])) (ht:H' x.t=some (.dK [])) (ne:x.b≠x.t) (fb:H x.b=none) (ft:H x.t=none):Scs C L H' (xs++[x]) (rs++[r]):=by
 have S':=S.same g;refine ⟨by rw [Ac,Ac,S.len];rfl,fun i y q hy hq=>?_,fun y hy=>?_,fun y hy=>?_,fun y hy z hz=>?_⟩
 ·by_cases hi:i<xs.length
  ·rw [D5 hi] at hy;rw [D5 (by have:=S.len;omega)] at hq
   exact S'.sc i y q hy hq
  ·rw [Cw ⋯] at hy;rw [Cw (by have:=S.len;omega)] at hq
   have h0:i - xs.length=0:=by
    cases e:i - xs.length with
    | zero=>rfl
    | succ k=>rw [e] at hy;simp at hy
   rw [h0] at hy;rw [← S.len,h0] at hq;cases hy;cases hq;exact sc
 ·rcases Bl.mp hy with hy | hy
  ·exact S'.bx y hy
  ·cases Az.mp hy;exact ⟨[],[],hb,rfl,E2,fun k hk=>by cases hk⟩
 ·rcases Bl.mp hy with hy | hy
  ·exact S'.tk y hy
  ·cases Az.mp hy;exact ⟨[],[],ht,rfl,E2,fun k hk=>by cases hk⟩
 ·rcases Bl.mp hy with hy | hy
  ·rcases Bl.mp hz with hz | hz
   ·exact S.ne y hy z hz
   ·cases Az.mp hz;obtain ⟨kvs,ks,e,_⟩:=S.bx y hy;exact qx e ft
  ·cases Az.mp hy;rcases Bl.mp hz with hz | hz
   ·obtain ⟨kvs,ks,e,_⟩:=S.tk z hz;exact Ne.symm (qx e fb)
   ·cases Az.mp hz;exact ne
theorem qf5 (o:V) (x:SA):(sFl o x).lookup ("shown_scope":Str)=none:=by rfl
structure RowsOk (L:List Str) (rs:List Tre.Row):Prop where
 ok:∀ r∈rs,RowOk L r
 bk:Tre.Qw rs
 len:rs.length≤300
 few:L.length≤59
theorem qap {names:List Str} {d:PyData} {s t:Nat} (hn:names.length=8) (hf:Tre.Ft names d) (hp:Tre.Pt d "program" false s t) (hs:s≤300) (ht:t≤20):RowsOk (Tre.vh++names) (Tre.jX (Tre.funs d)):=by
 have aw:=Tre.Y0 hp hs ht;refine ⟨fun r hr=>?_,Tre.qed aw,?_,?_⟩
 ·obtain ⟨e,he,rfl⟩:=By.mp hr;obtain ⟨i,hi⟩:=List.getElem?_of_mem he;exact qie (aw i e hi) (Tre.qhc hf.ins e he)
 ·rw [Ab];have:=(Tre.vX hp ht).2.2;omega
 ·rw [Ac,hn];decide
theorem qch {L:List Str} {rs:List Tre.Row} (R:RowsOk L rs) (h:Tre.vg rs=none):∀ r∈rs,r.names.length≤59:=fun r hr=>by
 obtain ⟨i,hi⟩:=List.getElem?_of_mem hr;have b:=Tre.Vg rs 0 h i r hi;unfold Tre.bad at b;rw [List.append_eq_nil_iff] at b;have nd:=Tre.YF r.names [] b.1 E2;rw [Bw] at nd;exact Av (ym r.names L nd fun x hx=>((R.ok r hr).nl x hx).2.1) R.few
theorem qbr {rs:List Tre.Row} (h:Tre.vg rs=none) {i:Nat} {r:Tre.Row} (hi:rs[i]?=some r) {x:Str} (hx:x∈r.used):∃ k,Tre.zP rs i x=some k:=by
 have b:=Tre.Vg rs 0 h i r hi;unfold Tre.bad at b;rw [List.append_eq_nil_iff,Nat.zero_add] at b;cases e:Tre.zP rs i x with
 | some k=>exact ⟨k,rfl⟩
 | none=>
  have m:x∈Tre.lost rs i r.used:=Ev.mpr ⟨hx,by rw [e];rfl⟩
  rw [b.2] at m;cases m
inductive spScs (K:Frag) (ad:Ad) (vs:List V) (H:Hp) (Q:VK) (E:XK):Prop
 | mk:∀ x d s t names,(vs=[x])→(Rep K H x d)→(names.length=8)→(Tre.Ft names d)→(Tre.Pt d "program" false s t)→(s≤300)→(t≤20)→((Tre.vg (Tre.jX (Tre.funs d))=none→∀ H' p zs,qw H H'→H' p=some (.lst zs)→zs.length=(Tre.funs d).length→Q (.ref p) H'))→((∀ y,Tre.vg (Tre.jX (Tre.funs d))=some y→∀ H' dx,qw H H'→H' dx=some (.xd [("name",.str y)])→E (.ref ad.BadName) (some dx) H'))→spScs K ad vs H Q E
inductive Iv_NamG_3 (ad:Ad) (H:Hp) (x:V) (L:List Str) (rs:List Tre.Row) (xs:List SA) (ps:Addr) (j:Nat) (y:SA) (k:Nat) (σ:St) (H':Hp):Prop
 | mk:∀ o4,(σ=[some x,some (.ref ps),some (.int (j:Nat)),some (.ref y.p),o4])→(qw H H')→(H' ps=some (.lst (JJ xs)))→(Scs ad.Scope L H' xs rs)→Iv_NamG_3 ad H x L rs xs ps j y k σ H'
inductive Iv_NamG_2 (ad:Ad) (H:Hp) (x:V) (L:List Str) (rs:List Tre.Row) (xs:List SA) (ps:Addr) (j:Nat) (σ:St) (H':Hp):Prop
 | mk:∀ o2 o3 o4,(σ=[some x,some (.ref ps),o2,o3,o4])→(qw H H')→(H' ps=some (.lst (JJ xs)))→(Scs ad.Scope L H' xs rs)→Iv_NamG_2 ad H x L rs xs ps j σ H'
inductive Iv_NamG_1 (x:V) (rs:List Tre.Row) (ps:Addr) (H3:Hp) (j:Nat) (σ:St) (H':Hp):Prop
 | mk:∀ o2,(σ=[some x,some (.ref ps),o2,none,none])→(qw H3 H')→(Tre.zf rs j (rs.drop j)=Tre.vg rs)→Iv_NamG_1 x rs ps H3 j σ H'
inductive Iv_NamG_0 (ad:Ad) (H1:Hp) (L:List Str) (rs:List Tre.Row) (i:Nat) (ys:List V) (H':Hp):Prop
 | mk:∀ (xs:List SA),(ys=JJ xs)→(xs.length=i)→(qw H1 H')→(Scs ad.Scope L H' xs (rs.take i))→(qde xs H1)→Iv_NamG_0 ad H1 L rs i ys H'
theorem Xw (F:Fun K "scopes_of" "scopes_of" jV f fd) (c:Cs K mg ad) (d_Scope:MakeA P w K mg base "Scope" ad.Scope 23 ["self","function"] (spScI K ad.Scope)) (d_S_shown_scope:MethN P w K mg base ad.Scope 1 "shown_scope" ["self"] (spShow ad.Scope)) (d_functions_of:Def P w K mg base 7 "functions_of" ["program"] (spFuns K))
  (d_refuse_names:DefY P w K mg base 5 "refuse_names" ["scopes","number"] (spRef K ad)) (d_take_name:Def P w K mg base 2 "take_name" ["scopes","number","name"] (spTake K ad.Scope)):FnOk P w K mg base (CX2 P w) 31 f fd ["program"] (spScs K ad):=by
 refine F.ok2 (k:=30) jh (fun vs H Q E h=>?_) (fun cdv A outer s H vs Q E hr h=>?_)
 ·obtain ⟨x,d,s,t,names,rfl,_⟩:=h;rfl
 obtain ⟨x,d,s,t,names,rfl,hk,hnl,hf,hp,hs,ht,q1,q2⟩:=h;refine ⟨_,(qf (WN (i:=1) jh.nd rfl (by first | exact Or.inl rfl | exact Or.inr rfl) (sc:=qj jV) (NX:=["program","scopes","number","scope","name"]) (N:=["function"]) (js:=[none]) (JP (K:=K) rfl (pdf d_functions_of (qb (pv 0) qc))) (fun _ _ _ _ _=>(zn (i:=0) (show (["function"]:List Str).Nodup from ∅) rfl (Or.inl rfl))) (fun _ _ _ _ _=>jE) (fun _ _ _ _ _=>(qiv d_Scope (hr.mono (by first | decide | omega)) (qb (pv 0) qc))) (zF rfl) ⟨∅,rfl,∅,∅,rfl,∅⟩)
   (qf (jf Ei rfl (jj rfl c.range_ (qb (qz (jw (K:=K) rfl) (by rfl) c.len_ zJ (qb (pv 1) qc)) qc)) (pgn 2 jh.nd) (qi (za (qat d_refuse_names (hr.mono (by first | decide | omega)) qkw (qb (pv 1) (qb (pv 2) qc))))))
   (qf (jf Ei rfl (qgr (K:=K) rfl c.enumerate_ (qb (pv 1) qc)) (YN (K:=K) rfl rfl (zN (pgn 2 jh.nd) (zN (pgn 3 jh.nd) vQ))) (qi (jf Ei rfl (JP (K:=K) rfl (jN (pv 3) rfl)) (pgn 4 jh.nd) (qi (za (pdf d_take_name (qb (pv 1) (qb (pv 2) (qb (pv 4) qc)))))))))
   (qi (qy (jk (sc:=qj jV) (NX:=["program","scopes","number","scope","name"]) (N:=["scope"]) (js:=[none]) (JP (K:=K) rfl (pv 1)) (fun _ _ _ _ _=>(zn (i:=0) (show (["scope"]:List Str).Nodup from ∅) rfl (Or.inl rfl))) (fun _ _ _ _ _=>jE) (fun _ _ _ _ _=>(qiw (pv 0) d_S_shown_scope (hr.mono (by first | decide | omega)))) (zF rfl) ⟨∅,rfl,∅,∅,rfl,∅⟩)))))),?_⟩
 have R:=qap hnl hf hp hs ht;have aw:=Tre.Y0 hp hs ht;have accF:=(Tre.vX hp ht).2.1;have rl:(Tre.jX (Tre.funs d)).length=(Tre.funs d).length:=Ab _;refine ⟨_,rfl,x,d,s,t,rfl,hk,hf.fit,hp,hs,ht,fun H1 pf zs g1 hpf hz rz=> .inl ⟨pf,rfl,⟨zs,SqL.of hz⟩,?_⟩⟩;have zl:=rz.length;have len300:=R.len;generalize Tre.vh++names=L at R;generalize hrs:Tre.jX (Tre.funs d)=rs at R rl len300 q1 q2;refine zG zs.length (Iv_NamG_0 ad H1 L rs) ⟨[],rfl,rfl,qw.refl _,⟨rfl,fun i x r h=>(by cases h),fun x h=>(by cases h),fun x h=>(by cases h),fun x h=>(by cases h)⟩,fun x h=>(by cases h)⟩ (fun i ys H' h=>?_) (qQ ⋯) (fun i ys H2 hi h=>?_) (fun ys H2 h=>?_)
 ·obtain ⟨xs,rfl,hl,_⟩:=h;rw [Ab];omega
 ·obtain ⟨xs,rfl,hl,g2,S,fr⟩:=h;have hx:zs[i]?=some zs[i]:=Aq hi;have hz2:=g2 _ _ hz;refine ⟨⟨zs,_,SqL.of hz2,hx⟩,fun v H3 yl=>?_⟩;obtain ⟨rfl,hv⟩:=yl;have ev:=hx.symm.trans (hv zs (SqL.of hz2));cases ev;obtain ⟨e,he,re⟩:=rz.get hx;generalize zs[i]=v at*;have er:rs.take (i+1)=rs.take i++[Tre.YK e]:=by
   rw [Bb,← hrs,A0,he];rfl
  obtain ⟨_,_,_,_,_,ge⟩:=accF.all e (A9 he);refine ⟨_,rfl,fun p dx hp0 hd0 hne=>?_⟩;have g3:qw H3 (upd (upd H3 dx (.own p)) p (.ins ad.Scope dx [])):=(qe hd0 _).trans (qe (by rw [qm (Ne.symm hne)];exact hp0) _)
  refine ⟨p,dx,v,e,i,rfl,upd_same,re.same (g2.trans g3),ge.nol,aw i e he,fun H4 x4 ex sc hb ht hbt hb0 ht0 keep=>⟨rfl,xs++[x4],?_,?_,?_,?_,?_⟩⟩
  ·unfold JJ;rw [An,← ex];rfl
  ·rw [Ac,hl];rfl
  all_goals have g4:qw H3 H4:=fun b o hb=>keep b o (qx hb hp0) (g3 _ _ hb)
  ·exact g2.trans g4
  ·rw [er];exact S.snoc g4 sc hb ht hbt (g3.free hb0) (g3.free ht0)
  ·intro y hy;rcases Bl.mp hy with hy | hy
   ·exact fr y hy
   ·cases Az.mp hy;exact ⟨g2.free (g3.free hb0),g2.free (g3.free ht0)⟩
 obtain ⟨xs,rfl,hl,g2,S,fr⟩:=h;rw [Dc ⋯] at S;refine ⟨⟨zs,SqL.of (g2 _ _ hz),Ah _⟩,fun ps hps=>?_⟩;have g3:=g2.trans (qe hps (.lst (JJ xs)));have S3:=S.same (qe hps (.lst (JJ xs)));have hps3:upd H2 ps (.lst (JJ xs)) ps=some (.lst (JJ xs)):=upd_same;have gH:=g1.trans g3;have frH:qde xs H:=fun y hy=>⟨g1.free (fr y hy).1,g1.free (fr y hy).2⟩;dsimp only;generalize upd H2 ps (.lst (JJ xs))=H3 at gH S3 hps3 ⊢;clear g2 g3 S fr hz rz hpf g1 hps;have hxl:=S3.len;have rlen:(JJ xs).length=rs.length:=by rw [Ab];exact hxl
 refine ⟨_,rfl,_,_,rfl,.inl ⟨_,SqL.of hps3,rfl⟩,_,rfl,⋯,⋯,?_⟩;refine JM rs.length (Iv_NamG_1 x rs ps H3) ⟨none,rfl,qw.refl _,rfl⟩ (fun j σ H4 hj h=>?_) (fun σ H4 h=>?_)
 ·obtain ⟨o2,rfl,g4,hw⟩:=h;refine ⟨show j<((JJ xs).length:Int).toNat by rw [rlen];exact hj,fun v H5 yl D' hn _=>?_⟩
  obtain ⟨rfl,ev⟩:=yl;rw [E9] at ev;subst ev;have hrj:rs[j]?=some rs[j]:=Aq hj;rw [List.drop_eq_getElem_cons hj,Tre.zf] at hw;refine ⟨_,rfl,_,rfl,ps,j,L,xs,rs,rs[j],rfl,SqL.of (g4 _ _ hps3),S3.same g4,R.bk,hrj,R.ok _ (Dq hj),fun hb H6 g6=>hn _ _ ⟨_,rfl,g4.trans g6,?_⟩,fun y qq hb H6 dx g6 h6=>?_⟩
  ·rw [hb] at hw;exact hw
  ·rw [hb] at hw;exact q2 y hw.symm H6 dx ((gH.trans g4).trans g6) h6
 obtain ⟨o2,rfl,g4,hw⟩:=h;rw [List.drop_length,Tre.zf] at hw;refine ⟨show ((JJ xs).length:Int).toNat≤rs.length by rw [rlen];exact Ah _,?_⟩
 have hps4:=g4 _ _ hps3;have S4:=S3.same g4;have gH4:=gH.trans g4;clear S3 g4 gH hps3;have few:=qch R hw.symm;refine ⟨_,rfl,ps,rfl,⟨_,SqL.of hps4⟩,?_⟩;refine JM rs.length (Iv_NamG_2 ad H x L rs xs ps) ⟨_,_,_,rfl,gH4,hps4,S4⟩ (fun j σ H5 hj h=>?_) (fun σ H5 h=>?_)
 ·obtain ⟨o2,o3,o4,rfl,g5,hps5,S5⟩:=h;have hrj:rs[j]?=some rs[j]:=Aq hj;obtain ⟨y,hy,sy⟩:=S5.get hrj;obtain ⟨⟨dy,oy⟩,hny,huy⟩:=sy;have hvy:(JJ xs)[j]?=some (.ref y.p):=by rw [A0,hy];rfl
  refine ⟨⟨_,_,SqL.of hps5,hvy⟩,fun v H6 yl D' hn _=>?_⟩;obtain ⟨pp,vv,hpp,rfl,hv,rfl⟩:=yl;have ev:=hvy.symm.trans (hv _ (SqL.of hps5));cases ev;have g6:=qe hpp (.tup [.int (j:Nat),.ref y.p]);refine ⟨pp,_,rfl,SqT.of upd_same,rfl,_,_,rfl,_,_,rfl,rfl,?_⟩;have S6:=S5.same g6;have hps6:=g6 _ _ hps5;have gH6:=g5.trans g6;have oy6:=g6 _ _ oy;have huy6:=g6 _ _ huy;generalize upd H5 pp (.tup [.int (j:Nat),.ref y.p])=H6 at S6 hps6 gH6 oy6 huy6 ⊢;refine ⟨_,rfl,y.p,_,dy,_,_,rfl,oy6,c.cl,c.aU,qao _ _,.inl ⟨y.u,rfl,⟨_,SqL.of huy6⟩,?_⟩⟩;refine JM rs[j].used.length (Iv_NamG_3 ad H x L rs xs ps j y) ⟨_,rfl,gH6,hps6,S6⟩ (fun k σ H7 hk h=>?_) (fun σ H7 h=>?_)
  ·obtain ⟨o4,rfl,g7,hps7,S7⟩:=h;have huy7:=(S7.sc j y _ hy hrj).us;have ek:rs[j].used[k]?=some rs[j].used[k]:=Aq hk;have hxk:(rs[j].used.map V.str)[k]?=some (.str rs[j].used[k]):=by rw [A0,ek];rfl
   refine ⟨⟨_,_,SqL.of huy7,hxk⟩,fun v H8 yl D2 hn2 _=>?_⟩;obtain ⟨rfl,hv⟩:=yl;have ev:=hxk.symm.trans (hv _ (SqL.of huy7));cases ev;have hm:rs[j].used[k]∈rs[j].used:=Dq hk;obtain ⟨kk,hkk⟩:=qbr hw.symm hrj hm;refine ⟨_,rfl,_,rfl,_,rfl,ps,j,_,L,xs,rs,kk,rfl,hps7,S7,R.bk,hj,((R.ok _ (Dq hj)).ul _ hm).2.1,Av R.few O0,few,hkk,fun H9 S9 st=>hn2 _ _ ⟨_,rfl,st.sm H frH g7,st.nd _ _ (fun _ z=>by cases z) hps7,S9⟩⟩
  ·obtain ⟨o4,rfl,g7,hps7,S7⟩:=h;have huy7:=(S7.sc j y _ hy hrj).us;exact ⟨⟨_,SqL.of huy7,by rw [Ab];exact Ah _⟩,hn _ _ ⟨_,_,_,rfl,g7,hps7,S7⟩⟩
 obtain ⟨o2',o3',o4',rfl,g5,hps5,S5⟩:=h;refine ⟨⟨_,SqL.of hps5,by rw [rlen];exact Ah _⟩,?_⟩
 refine ⟨_,rfl,.inl ⟨ps,rfl,⟨_,SqL.of hps5⟩,?_⟩⟩;refine zG rs.length (fun i ys H'=>ys.length=i∧qw H5 H') ⟨rfl,qw.refl _⟩ (fun i ys H' h=>Nat.le_of_eq h.1) (qQ ⋯) (fun i ys H6 hi h=>?_) (fun ys H6 h=>?_)
 ·obtain ⟨hl6,g6⟩:=h;have hri:rs[i]?=some rs[i]:=Aq hi;have S6:=S5.same g6;obtain ⟨y,hy,sy⟩:=S6.get hri;have hvy:(JJ xs)[i]?=some (.ref y.p):=by rw [A0,hy];rfl
  refine ⟨⟨_,_,SqL.of (g6 _ _ hps5),hvy⟩,fun v H7 yl=>?_⟩;obtain ⟨rfl,hv⟩:=yl;have ev:=hvy.symm.trans (hv _ (SqL.of (g6 _ _ hps5)));cases ev;have hym:=A9 hy;obtain ⟨dy,oy⟩:=sy.ob;refine ⟨_,rfl,y.p,dy,_,rfl,oy,qf5 _ _,y,rs[i],L,rfl,sy,S6.bx y hym,S6.tk y hym,Av R.few O0,fun H8 v g8=>⟨?_,g6.trans g8⟩⟩;rw [Ac,hl6];rfl
 obtain ⟨hl6,g6⟩:=h;refine ⟨⟨_,SqL.of (g6 _ _ hps5),by rw [rlen];exact Ah _⟩,fun D hD=>?_⟩
 exact q1 hw.symm _ D ys ((g5.trans g6).trans (qe hD _)) upd_same ⋯
theorem qa5 (h:Str):inV (.str h) [.str "if",.str "while",.str "try"]=Tre.vG h:=by
 rw [show ([.str "if",.str "while",.str "try"]:List V)=(["if","while","try"]:List Str).map V.str from rfl,VZ];unfold Tre.vG;simp only [Cu,List.any_nil,Ed,Bool.beq_comm]
inductive PvA (H:Hp) (a:Addr) (xs:List PyData) (i:Nat) (σ:St) (H':Hp):Prop
 | mk:∀ pf o2 o3,(σ=[some (.ref a),some (.ref pf),o2,o3])→(H pf=none)→(qw H H')→(H' pf=some (.lst ((Tre.brL (xs.take i)).map V.str)))→PvA H a xs i σ H'
inductive PvB (H:Hp) (a a2:Addr) (pre:List Str) (hd:Str) (ts:List PyData) (j:Nat) (σ:St) (H':Hp):Prop
 | mk:∀ pf o3,(σ=[some (.ref a),some (.ref pf),some (.ref a2),o3])→(H pf=none)→(qw H H')→(H' pf=some (.lst ((pre++Tre.zB hd 1 (ts.take j)).map V.str)))→PvB H a a2 pre hd ts j σ H'
def WK (K:Frag):TS:=zQ (tBM K "list" z9 (qg 1) (qd (tOp (rIx K) (qg 2) (tC (V.int 1))) qo))
def WJ (K:Frag):TS:=zQ (tBM K "list" z9 (qg 1) (qd (tOp (rIx K) (qg 2) (tC (V.int 3))) qo))
def WH (K:Frag) (n:Nat):TS:=qX (tOp zW (qg 1) (qE (spBro K n) [] E0 (qd (tOp (rIx K) (qg 2) (qg 3)) qo))) (qv 1)
def WG (K:Frag) (n:Nat):TS:=zz (VP (qI (tOp (rIn K false) (tOp (rIx K) (qg 2) (tC (V.int 0))) (jl (qd (tC (V.str "if")) (qd (tC (V.str "while")) (qd (tC (V.str "try")) qo)))))) (VP (tB (tCB (fun xs H Q=>∃ x d T,xs=[x,V.ty T]∧Rep K H x d∧T∈["bool","int","str","list","tuple"]∧Q (V.bl (isi (tyD d) T)) H) (qd (tOp (rIx K) (qg 2) (qg 3)) (qd (tC (V.ty "tuple")) qo)))) (tOr (qI (tOp (rI0 fun i j=>V.bl (decide (j<i))) (qg 3) (tC (V.int 1)))) (qI (tOp rEq (tOp (rIx K) (qg 2) (tC (V.int 0))) (tC (V.str "try"))))))) (WH K n) zg
def WF (K:Frag) (n:Nat):TS:=qG (zz (VP (qI (tOp rEq (tOp (rIx K) (qg 2) (tC (V.int 0))) (tC (V.str "try")))) (qI (tOp rEq (qg 3) (tC (V.int 3))))) (WJ K) zg) (WG K n)
def WE (K:Frag) (n:Nat):TS:=Vj (qe3 (qd (tC (V.int 1)) (qd (tCB (fun xs H Q=>∃ x n,xs=[x]∧v9 K x H n∧Q (V.int ↑n) H) (qd (qg 2) qo)) qo))) (qv 3) (WF K n)
def WD (K:Frag) (n:Nat):TS:=qG (zz (qI (tOp rEq (tOp (rIx K) (qg 2) (tC (V.int 0))) (tC (V.str "let")))) (WK K) zg) (WE K n)
def WC (K:Frag) (n:Nat):TS:=qG (Vj (v3 K (qg 0)) (qv 2) (WD K n)) (jb (qg 1))
theorem yk (F:Fun K "_law_brought" "_law_brought" jS f fd) (c:Cs K mg ad) (n:Nat) (d_law_brought:Def P w K mg base n "_law_brought" ["_law_body_here"] (spBro K n)):FnOk P w K mg base CX0 (n+1) f fd ["_law_body_here"] (spBro K (n+1)):=by
 refine F.ok (k:=n) jd (fun vs H Q E h=>?_) (fun cdv A outer s H vs Q E hr h=>?_)
 ·obtain ⟨x,xs,s,t,rfl,_⟩:=h;rfl
 obtain ⟨x,xs,s,t,rfl,hk,tl,hs,ht,q⟩:=h;refine ⟨_,(qf (pst 1 jd.nd (zj qc))
   (qf (jf Bt rfl (JP (K:=K) rfl (pv 0)) (pgn 2 jd.nd) (qf (qN (qt zy (pix K (pv 2) qh) qp (qD _)) (qi (za (JN (K:=K) rfl A5 B0 Bz zX (pv 1) (qb (pix K (pv 2) qh) qc)))) qB)
   (qi (jf Bt rfl (qcb rfl c.range_ (qb qh (qb (qz (jw (K:=K) rfl) (by rfl) c.len_ zJ (qb (pv 2) qc)) qc))) (pgn 3 jd.nd) (qf (qN (PW.pt (J4 (qt zy (pix K (pv 2) qh) qp (qD _)) (JB (qt zy (pv 3) qh (qD _))))) (qi (za (JN (K:=K) rfl A5 B0 Bz zX (pv 1) (qb (pix K (pv 2) qh) qc)))) qB)
   (qi (qN (PW.pt (J4 (qt (yx (K:=K) rfl) (pix K (pv 2) qh) (qO (qb qp (qb qp (qb qp qc)))) rfl) (J4 (zZ (qz (j7 (K:=K) rfl) (by rfl) c.isinstance_ qJ (qb (pix K (pv 2) (pv 3)) (qb (JQ c.tuple_ zH) qc)))) (JB (PW.pt (ve (qt qaw (pv 3) qh (qD _)) (JK (qt zy (pix K (pv 2) qh) qp (qD _))))))))) (qi (pst 1 jd.nd (qu zb (pv 1) (pdf d_law_brought (qb (pix K (pv 2) (pv 3)) qc))))) qB)))))))
   (qi (qy (pv 1))))),?_⟩
 show qG (qX (Jv qo) (qv 1)) (WC K n) _ _ _;refine ⟨qQ O0,fun pf hpf=>?_⟩;have g0:=qe hpf (.lst []);have h0:upd H pf (.lst []) pf=some (.lst []):=upd_same;generalize upd H pf (.lst [])=H0 at g0 h0 ⊢;obtain ⟨a,ws,rfl,hq,rs⟩:=hk.tup_inv;have hwl:=rs.length;have few:=tl.few;have tot:∀ j,(Tre.brL (xs.take j)).length≤300:=fun j=>by
  have e:=congrArg List.length (Tre.brL_append (xs.take j) (xs.drop j));rw [Dh,Ac] at e;have:=Tre.yT _ tl (Ah _);omega
 refine ⟨_,rfl,.inr (.inl ⟨a,rfl,⟨ws,g0.sqT hq⟩,?_⟩)⟩;refine yD rs (PvA H a xs) ?_ (fun i σ H' h=>?_) (fun i σ H3 v d hi he rd h D' hn _=>?_) (fun σ H2 h=>?_)
 ·exact ⟨pf,none,none,rfl,hpf,g0,h0⟩
 ·obtain ⟨pf,o2,o3,rfl,hpf,g2,hp2⟩:=h;exact g2.sqT hq
 ·clear h0 g0 hpf;obtain ⟨pf,o2,o3,rfl,hpf,g2,hp2⟩:=h;obtain ⟨s1,t1,tr,hs1,ht1⟩:=tl.mem d (A9 he);have tot0:=tot i;have tot1:=tot (i+1);have e1:Tre.brL (xs.take (i+1))=Tre.brL (xs.take i)++Tre.brS d:=by rw [Bb,he,Tre.brL_append,show (some d).toList=[d] from rfl,Tre.brL,Tre.brL,A6]
  rw [e1,Ac] at tot1;refine tr.el fun _ _ _ _ _ _ hf _=>Tre.WR hf fun hd ts hdd=>?_;subst hdd;have hts:=Tre.qdx tr;refine rd.tp1 fun a2 ys' e2 hq0 rs2=>?_;subst e2;have hyl:=rs2.length;generalize hpre:Tre.brL (xs.take i)++(if hd=="let" then [Tre.txt (ts.headD .none)] else [])=pre
  have eS:Tre.brL (xs.take i)++Tre.brS (.tuple (.str hd::ts))=pre++Tre.zB hd 1 ts:=by
   rw [← hpre,B6];cases ts with
   | nil=>exact absurd rfl hts.1
   | cons t r=>rw [Tre.brS];rfl
  have totS:(pre++Tre.zB hd 1 ts).length≤300:=by
   rw [← eS,Ac];exact tot1
  have rest:∀ (H4:Hp) (pf:Addr) (o3:Option V) (D:Ends) (tb:TS),qw H H4→H pf=none→H4 pf=some (.lst (pre.map V.str))→(∀ σ H',PvA H a xs (i+1) σ H'→D.nx σ H')→
    (∀ j v H5 D',j<ts.length→PvB H a a2 pre hd ts j v H5→(∀ σ H',PvB H a a2 pre hd ts (j+1) σ H'→D'.nx σ H')→tb D' (v.set 3 (some (.int (1+(j:Int))))) H5)→
    Vj (qe3 (qd (tC (V.int 1)) (qd (tCB (fun xs H Q=>∃ x n,xs=[x]∧v9 K x H n∧Q (V.int ↑n) H) (qd (qg 2) qo)) qo))) (qv 3) tb D [some (.ref a),some (.ref pf),some (.ref a2),o3] H4:=by
   intro H4 pf o3 D tb g4 hpf h4 hD htb;have e4:((((V.str hd::ys').length:Nat):Int) - 1).toNat=ts.length:=by
    rw [Aj,hyl];omega
   refine ⟨_,rfl,_,_,rfl,.inr ⟨_,g4.sqT hq0,rfl⟩,_,_,rfl,⟨⋯,⋯,⋯,by rw [Aj];omega⟩,?_⟩
   refine Q0 ts.length (PvB H a a2 pre hd ts) ⟨pf,o3,rfl,hpf,g4,by rw [List.take_zero,Tre.zB,A6];exact h4⟩ (fun j σ H5 hj h=>?_) (fun σ H5 h=>?_)
   ·refine ⟨show j<_ by rw [e4];exact hj,fun v H6 yl=>?_⟩
    obtain ⟨rfl,rfl⟩:=yl;exact htb j σ H6 _ hj h fun _ _ h=>h
   ·refine ⟨show _≤ts.length by rw [e4];exact Ah _,?_⟩
    obtain ⟨pf,o3,rfl,hpf,g5,hp5⟩:=h;refine hD _ _ ⟨pf,_,o3,rfl,hpf,g5,?_⟩;rw [e1,eS];rw [Bp] at hp5;exact hp5
  have body:∀ (j:Nat) (σ:St) (H5:Hp) (D':Ends),j<ts.length→PvB H a a2 pre hd ts j σ H5→(∀ σ H',PvB H a a2 pre hd ts (j+1) σ H'→D'.nx σ H')→qG (zz (VP (qI (tOp rEq (tOp (rIx K) (qg 2) (tC (V.int 0))) (tC (V.str "try")))) (qI (tOp rEq (qg 3) (tC (V.int 3))))) (zQ (tBM K "list" z9 (qg 1) (qd (tOp (rIx K) (qg 2) (tC (V.int 3))) qo))) zg)
    (zz (VP (qI (tOp (rIn K false) (tOp (rIx K) (qg 2) (tC (V.int 0))) (jl (qd (tC (V.str "if")) (qd (tC (V.str "while")) (qd (tC (V.str "try")) qo)))))) (VP (tB (tCB (fun xs H Q=>∃ x d T,xs=[x,V.ty T]∧Rep K H x d∧T∈["bool","int","str","list","tuple"]∧Q (V.bl (isi (tyD d) T)) H) (qd (tOp (rIx K) (qg 2) (qg 3)) (qd (tC (V.ty "tuple")) qo)))) (tOr (qI (tOp (rI0 fun i j=>V.bl (decide (j<i))) (qg 3) (tC (V.int 1)))) (qI (tOp rEq (tOp (rIx K) (qg 2) (tC (V.int 0))) (tC (V.str "try")))))))
     (qX (tOp zW (qg 1) (qE (spBro K n) [] E0 (qd (tOp (rIx K) (qg 2) (qg 3)) qo))) (qv 1)) zg) D' (σ.set 3 (some (.int (1+(j:Int))))) H5:=by
   intro j σ H5 D' hj h hD;obtain ⟨pf,o3,rfl,hpf,g5,hp5⟩:=h;obtain ⟨yj,hyj⟩:=va (l:=ys') (i:=j) ⋯;obtain ⟨tj,htj,rj⟩:=rs2.get hyj;have hxj:(V.str hd::ys')[1+j]?=some yj:=by
    rw [Nat.add_comm,Da];exact hyj
   have eat:(1+(j:Int))=((1+j:Nat):Int):=⋯;have step:Tre.zB hd 1 (ts.take (j+1))=Tre.zB hd 1 (ts.take j)++Tre.qbk hd (1+j) tj:=by
    rw [Bb,htj,show (some tj).toList=[tj] from rfl,Tre.Y5,List.length_take_of_le ⋯]
   have tj1:(pre++Tre.zB hd 1 (ts.take (j+1))).length≤300:=by
    have e:=Tre.Wm hd (ts.drop (j+1)) (ts.take (j+1)) 1;rw [Dh] at e;rw [e,← B6,Ac] at totS;omega
   have fin:∀ (H6:Hp) (pf:Addr) (l:List Str),H pf=none→qw H H6→H6 pf=some (.lst (l.map V.str))→l=pre++(Tre.zB hd 1 (ts.take j)++Tre.qbk hd (1+j) tj)→∀ o3,D'.nx [some (.ref a),some (.ref pf),some (.ref a2),o3] H6:=fun H6 pf l hpf g6 h6 e o3=>by
    refine hD _ _ ⟨pf,o3,rfl,hpf,g6,?_⟩;rw [step,← e];exact h6
   generalize hA1:(if hd=="try"&&(1+j)==3 then [Tre.txt tj] else [])=A1
   generalize hA2:(if Tre.vG hd&&(Tre.jn tj&&(decide (1<1+j)||hd=="try")) then Tre.brB tj else [])=A2
   have eO:Tre.qbk hd (1+j) tj=A1++A2:=by rw [← hA1,← hA2];rfl
   rw [step,eO] at tj1;rw [eO] at fin;have len1:(pre++(Tre.zB hd 1 (ts.take j)++A1)).length≤300:=by
    simp only [Ac] at tj1 ⊢;omega
   have key:∀ U:TS,(∀ (H6:Hp) (pf:Addr),H pf=none→qw H H6→H6 pf=some (.lst ((pre++(Tre.zB hd 1 (ts.take j)++A1)).map V.str))→U D' [some (.ref a),some (.ref pf),some (.ref a2),some (.int (1+(j:Int)))] H6)→
     qG (zz (VP (qI (tOp rEq (tOp (rIx K) (qg 2) (tC (V.int 0))) (tC (V.str "try")))) (qI (tOp rEq (qg 3) (tC (V.int 3))))) (zQ (tBM K "list" z9 (qg 1) (qd (tOp (rIx K) (qg 2) (tC (V.int 3))) qo))) zg) U D' [some (.ref a),some (.ref pf),some (.ref a2),some (.int (1+(j:Int)))] H5:=by
    intro U hU;refine ⟨_,rfl,ixT (g5.sqT hq0) (qk (j:=0) rfl) ⟨rfl,_,rfl,?_⟩⟩
    by_cases ht:hd="try"
    ·subst ht;refine qZ (deq rfl) ⟨_,rfl,rfl,_,rfl,?_⟩
     by_cases h3:j=2
     ·subst h3;refine qZ (show decide _=true from Ak rfl) ?_;obtain ⟨cc,hcc⟩:=Tre.qbv tr;cases htj.symm.trans hcc;cases rj;rw [← hA1,if_pos ∅] at hU len1;refine ⟨_,rfl,.inl ⟨rfl,_,SqL.of hp5⟩,v8 ⟨_,rfl,ixT (g5.sqT hq0) (qk (j:=3) hxj) (apd hp5 (Jx (by simp only [Ac,Ab] at len1 ⊢;omega)) ?_)⟩⟩
      refine hU _ pf hpf (qL g5 hpf _) ?_;rw [upd_same,An,An,An,← B6];rfl
     ·refine qR (show decide _=false from As fun z=>h3 (by have:=V.int.inj z;omega)) ?_
      rw [← hA1,if_neg (by rw [Ae,Ax,Ax];omega),A6] at hU
      exact hU H5 pf hpf g5 hp5
    ·refine qR (dne ht) ?_;rw [← hA1,if_neg (by rw [Ae,Ax];exact fun z=>ht z.1),A6] at hU
     exact qR rfl (hU H5 pf hpf g5 hp5)
   refine key _ fun H6 pf hpf g6 h6=>?_;have no:∀ H7,qw H6 H7→¬ (Tre.vG hd&&(Tre.jn tj&&(decide (1<1+j)||hd=="try")))=true→D'.nx [some (.ref a),some (.ref pf),some (.ref a2),some (.int (1+(j:Int)))] H7:=fun H7 g7 hn=>by
    refine fin H7 pf _ hpf (g6.trans g7) (g7 _ _ h6) ?_ _;rw [← hA2,if_neg hn,A6]
   refine ⟨_,rfl,ixT (g6.sqT hq0) (qk (j:=0) rfl) ⟨qQ O0,fun p1 hp1=>?_⟩⟩;have g7:=qe hp1 (.tup [.str "if",.str "while",.str "try"]);refine (inS (.inr (SqT.of upd_same)) rfl rfl ⟨_,rfl,?_⟩);generalize upd H6 p1 (.tup [.str "if",.str "while",.str "try"])=H7 at g7 ⊢
   by_cases hc:Tre.vG hd=true
   case neg=>exact qR ((qa5 hd).trans (Bo.mpr hc)) (qR rfl (no H7 g7 fun z=>hc (Bool.and_eq_true_iff.mp z).1))
   refine qZ ((qa5 hd).trans hc) ?_;have gj:=g6.trans g7;refine ⟨_,rfl,_,rfl,ixT (gj.sqT hq0) (by rw [eat];exact qk (j:=1+j) hxj) ⟨_,tj,"tuple",rfl,rj.same gj,O0,_,rfl,?_⟩⟩
   rw [J8];cases htp:Tre.jn tj with
   | false=>exact qR rfl (qR rfl (no H7 g7 (by rw [htp,Cp,C9];exact Ag)))
   | true=>
    refine qZ rfl ?_;have yes:(decide (1<1+j)||hd=="try")=true→∀ D:Ends,(∀ σ H',D'.nx σ H'→D.nx σ H')→qX (tOp zW (qg 1) (qE (spBro K n) [] E0 (qd (tOp (rIx K) (qg 2) (qg 3)) qo))) (qv 1) D [some (.ref a),some (.ref pf),some (.ref a2),some (.int (1+(j:Int)))] H7:=fun hb D hDD=>by
     have hb':0<j∨hd="try":=by
      rw [B4,Ax,Dn] at hb;rcases hb with h | h
      ·exact .inl ⋯
      ·exact .inr h
     cases tj with
     | tuple xs1=>
      obtain ⟨s2,t2,p1,l1,l2⟩:=Tre.qjz tr hc htj hb';rw [← hA2,if_pos (by rw [hc,htp,hb];rfl),Tre.brB] at fin tj1
      refine ⟨_,rfl,_,rfl,_,rfl,ixT (gj.sqT hq0) (by rw [eat];exact qk (j:=1+j) hxj) ⟨_,xs1,s2,t2,rfl,rj.same gj,p1,⋯,⋯,fun H8 q1 g8 hq1 h8=>?_⟩⟩
      refine Wv ((g7.trans g8) _ _ h6) h8 (qQ (by simp only [Ac,Ab] at tj1 ⊢;omega)) fun q2 hq2=>?_
      have g9:=((gj.trans g8).trans (qe hq2 (.lst ((pre++(Tre.zB hd 1 (ts.take j)++A1)).map V.str++(Tre.brL xs1).map V.str))));refine hDD _ _ (fin _ q2 _ ((gj.trans g8).free hq2) g9 (by rw [upd_same,← An]) (by simp only [B6]) _)
     | _=>cases htp
    refine ⟨_,rfl,_,_,rfl,rfl,_,rfl,?_⟩
    by_cases h1:0<j
    ·refine qZ (show decide _=true from Ak ⋯) (qZ rfl ?_);exact yes (by rw [Ak ⋯];rfl) _ fun _ _ h=>h
    ·refine qR (show decide _=false from As ⋯) ?_;refine ⟨_,rfl,ixT (gj.sqT hq0) (qk (j:=0) rfl) ⟨rfl,_,rfl,?_⟩⟩
     by_cases ht:hd="try"
     ·refine qZ (deq ht) ?_;exact yes (by rw [Ax.mpr ht,E8]) _ fun _ _ h=>h
     ·refine qR (dne ht) ?_;refine no H7 g7 ?_;rw [hc,htp,As ⋯,Bc.mpr ht];exact Ag
  refine ⟨_,rfl,ixT (g2.sqT hq0) (qk (j:=0) rfl) ⟨rfl,_,rfl,?_⟩⟩
  by_cases hl:hd="let"
  ·subst hl;refine qZ (deq rfl) ?_;obtain ⟨nx,r,rfl⟩:=Tre.qcn tr;refine rs2.ct fun y1 _ e'y1 r1 rs2=>?_;subst e'y1;obtain rfl:=r1.strI;refine ⟨_,rfl,.inl ⟨rfl,_,SqL.of hp2⟩,v8 ⟨_,rfl,ixT (g2.sqT hq0) (qk (j:=1) rfl) (apd hp2 (Jx (by rw [Ab];omega)) ?_)⟩⟩
   refine rest _ pf _ _ _ (qL g2 hpf _) hpf ?_ hn body;rw [upd_same,← hpre,An];rfl
  ·refine qR (dne hl) ?_;refine rest _ pf _ _ _ g2 hpf ?_ hn body;rw [← hpre,if_neg (by rw [Ax];exact hl),A6]
   exact hp2
 ·obtain ⟨pf,o2,o3,rfl,hpf,g2,hp2⟩:=h;rw [Bp] at hp2;exact ⟨_,rfl,q _ pf g2 hpf hp2⟩
theorem Qe {fB:Addr} {dB:FuncData} (F:Fun K "_law_brought" "_law_brought" jS fB dB) (kB:Known K mg "_law_brought" ["_law_body_here"] fB dB) (c:Cs K mg ad):∀ n:Nat,Def P w K mg base n "_law_brought" ["_law_body_here"] (spBro K n)
 | 0=>by
  have no:∀ vs H Q E,spBro K 0 vs H Q E→False:=fun vs H Q E h=>by
   obtain ⟨x,xs,s,t,_,_,_,_,ht,_⟩:=h;omega
  exact kB.out ⟨fun vs H Q E h=>(no _ _ _ _ h).elim,fun _ _ _ _ _ _ _ _ _ _ _ _ _ h=>(no _ _ _ _ h).elim⟩
 | n+1=>kB.out (yk F c n (Qe F kB c n))
inductive spLU (K:Frag) (n:Nat) (vs:List V) (H:Hp) (Q:VK) (E':XK):Prop
 | mk:∀ x d s t,(vs=[x])→(Rep K H x d)→(Tre.Tr d s t)→(s≤300)→(t≤n)→(n≤20)→(∀ H' p,qw H H'→H p=none→H' p=some (.lst ((Tre.jg 30 d).map V.str))→Q (.ref p) H')→spLU K n vs H Q E'
inductive Iv_NamI_0 (H:Hp) (hd:Str) (ts:List PyData) (a2:Addr) (H4:Hp) (i:Nat) (σ:St) (H':Hp):Prop
 | mk:∀ pf o2,(σ=[some (.ref a2),some (.ref pf),o2])→(H pf=none)→(qw H4 H')→(H' pf=some (.lst ((Tre.own (.tuple (.str hd::ts))++((Tre.zm (.tuple (.str hd::ts))).take i).flatMap (Tre.jg 30)).map V.str)))→Iv_NamI_0 H hd ts a2 H4 i σ H'
def X7 (K:Frag) (n:Nat):TS:=qX (tOp zW (qg 1) (qE (spLU K n) [] E0 (qd (qg 2) qo))) (qv 1)
def X6 (K:Frag) (n:Nat):TS:=qG (Vj (v3 K (qE (spLI K) [] E0 (qd (qg 0) qo))) (qv 2) (X7 K n)) (jb (qg 1))
def X5 (K:Frag) (n:Nat):TS:=qG (qX (tIf (qI (tOp (rIn K false) (tOp (rIx K) (qg 0) (tC (V.int 0))) (jl (qd (tC (V.str "name")) (qd (tC (V.str "set")) qo))))) (Jv (qd (tOp (rIx K) (qg 0) (tC (V.int 1))) qo)) (Jv qo)) (qv 1)) (X6 K n)
theorem ZI (F:Fun K "_law_used" "_law_used" JZ f fd) (c:Cs K mg ad) (n:Nat) (d_law_inner:Def P w K mg base 1 "_law_inner" ["_law_part"] (spLI K)) (d_law_used:Def P w K mg base (n+1) "_law_used" ["_law_part"] (spLU K n)):FnOk P w K mg base CX0 (n+2) f fd ["_law_part"] (spLU K (n+1)):=by
 refine F.ok (k:=n+1) Jy (fun vs H Q E h=>?_) (fun cdv A outer s H vs Q E hr h=>?_)
 ·obtain ⟨x,d,s,t,rfl,_⟩:=h;rfl
 obtain ⟨x,d,s,t,rfl,hk,tr,hs,ht,hn,q⟩:=h;refine ⟨_,(qf (qN (qt (yx (K:=K) rfl) (pix K (pv 0) qh) (qO (qb qp (qb qp qc))) rfl) (qi (qy (zj qc))) qB)
   (qf (pst 1 Jy.nd (ZB (qt (yx (K:=K) rfl) (pix K (pv 0) qh) (qO (qb qp (qb qp qc))) rfl) (zj (qb (pix K (pv 0) qh) qc)) (zj qc)))
   (qf (jf Bt rfl (JP (K:=K) rfl (pdf d_law_inner (qb (pv 0) qc))) (pgn 2 Jy.nd) (qi (pst 1 Jy.nd (qu zb (pv 1) (pdf d_law_used (qb (pv 2) qc))))))
   (qi (qy (pv 1)))))),?_⟩
 show qG (zz (qI (tOp (rIn K false) (tOp (rIx K) (qg 0) (tC (V.int 0))) (jl (qd (tC (V.str "fun")) (qd (tC (V.str "loop")) qo))))) (jb (Jv qo)) zg) (X5 K n) _ _ _;have up:=Tre.YE tr ⋯;have ul:=tr.uses_le 30;have trS:=tr;refine tr.el fun sh hands s0 t0 es et hform tl=>Tre.WR hform fun hd ts ed=>?_;subst ed;refine hk.tp1 fun a2 ys' e2 hq0 rs2=>?_;subst e2;refine ⟨_,rfl,ixT hq0 (qk (j:=0) rfl) ⟨qQ O0,fun p1 hp1=>?_⟩⟩;have g1:=qe hp1 (.tup [.str "fun",.str "loop"]);refine (inS (.inr (SqT.of upd_same)) rfl rfl ⟨_,rfl,?_⟩);generalize upd H p1 (.tup [.str "fun",.str "loop"])=H1 at g1 ⊢;cases hin:Tre.XL (.tuple (.str hd::ts)) with
 | true=>
  rw [hin,if_pos rfl] at up;refine qZ ((JF hd "fun" "loop").trans hin) ⟨qQ O0,fun p2 hp2=>?_⟩;refine q _ p2 (g1.trans (qe hp2 _)) (g1.free hp2) ?_;rw [upd_same,up];rfl
 | false=>
  rw [hin,if_neg Ag] at up;rw [up] at ul q;refine qR ((JF hd "fun" "loop").trans hin) ?_;have rest:∀ (H3:Hp) (pf:Addr) (D:Ends) (tb:TS),D.rt=Q→qw H H3→H pf=none→H3 pf=some (.lst ((Tre.own (.tuple (.str hd::ts))).map V.str))→(∀ σ H',tb D σ H'=∃ v,σ[1]?=some (some v)∧Q v H')→qG (Vj (v3 K (qE (spLI K) [] E0 (qd (qg 0) qo))) (qv 2) (qX (tOp zW (qg 1) (qE (spLU K n) [] E0 (qd (qg 2) qo))) (qv 1))) tb D [some (.ref a2),some (.ref pf),none] H3:=by
   intro H3 pf D tb _ g3 hpf h3 htb;refine ⟨_,rfl,.ref a2,_,s,t,H,rfl,g3,hk,trS,⋯,fun H4 pl ks g4 hpl hl4 rk=> .inl ⟨pl,rfl,⟨ks,SqL.of hl4⟩,?_⟩⟩;have hkl:=rk.length;refine qfb rk (Iv_NamI_0 H hd ts a2 H4) ?_ (fun i σ H' h=>?_) (fun i σ H6 v e hi he re h D' hn _=>?_) (fun σ H5 h=>?_)
   ·refine ⟨pf,none,rfl,hpf,qw.refl _,?_⟩;rw [List.take_zero,List.flatMap_nil,A6];exact g4 _ _ h3
   ·obtain ⟨pf,o2,rfl,hpf,g5,h5⟩:=h;exact SqL.of (g5 _ _ hl4)
   ·obtain ⟨pf,o2,rfl,hpf,g5,h5⟩:=h;obtain ⟨s1,t1,tr1,hs1,ht1⟩:=tl.mem e (A9 he);have ee:Tre.own (.tuple (.str hd::ts))++((Tre.zm (.tuple (.str hd::ts))).take (i+1)).flatMap (Tre.jg 30)=(Tre.own (.tuple (.str hd::ts))++((Tre.zm (.tuple (.str hd::ts))).take i).flatMap (Tre.jg 30))++Tre.jg 30 e:=by
     rw [Bb,he,Ch,B6];simp
    have all:(Tre.own (.tuple (.str hd::ts))++((Tre.zm (.tuple (.str hd::ts))).take (i+1)).flatMap (Tre.jg 30)).length≤300:=by
     rw [← Dh (i+1) (Tre.zm (.tuple (.str hd::ts))),Ch,← B6,Ac] at ul;omega
    rw [ee,Ac] at all;refine ⟨_,rfl,_,rfl,v,e,s1,t1,rfl,re.same (g3.trans (g4.trans g5)),tr1,⋯,⋯,⋯,fun H7 q1 g7 hq1 h7=>?_⟩;refine Wv (g7 _ _ h5) h7 (qQ (by rw [Ab,Ab];omega)) fun q2 hq2=>?_
    refine hn _ _ ⟨q2,_,rfl,(g3.trans (g4.trans (g5.trans g7))).free hq2,(g5.trans g7).trans (qe hq2 _),?_⟩;rw [upd_same,ee,← An]
   ·obtain ⟨pf,o2,rfl,hpf,g5,h5⟩:=h;rw [Bp] at h5;dsimp only;rw [htb];exact ⟨_,rfl,q _ pf (g3.trans (g4.trans g5)) hpf h5⟩
  refine ⟨_,rfl,ixT (g1.sqT hq0) (qk (j:=0) rfl) ⟨qQ O0,fun p2 hp2=>?_⟩⟩;have g2:=g1.trans (qe hp2 (.tup [.str "name",.str "set"]));refine (inS (.inr (SqT.of upd_same)) rfl rfl ⟨_,rfl,?_⟩);generalize upd H1 p2 (.tup [.str "name",.str "set"])=H2 at g2 ⊢;refine v1 (fun hn=>?_) (fun hn=>?_)
  ·have hh:hd="name"∨hd="set":=by
    have z:inV (.str hd) [.str "name",.str "set"]=true:=hn;rw [JF,B4,Ax,Ax] at z;exact z
   obtain ⟨nx,r,rfl,_,eown⟩:=Tre.ye trS hh;refine rs2.ct fun y1 _ e'y1 r1 rs2=>?_;subst e'y1;obtain rfl:=r1.strI;refine ⟨_,rfl,ixT (g2.sqT hq0) (qk (j:=1) rfl) ⟨qQ (by simp only [Ac,Ab,At,Aj,Bj,A4];omega),fun pf hpf=>?_⟩⟩
   exact rest _ pf _ _ rfl (g2.trans (qe hpf _)) (g2.free hpf) (by rw [upd_same,eown];rfl) fun σ H'=>rfl
  ·have hh:¬ (hd="name"∨hd="set"):=fun z=>by
    refine hn (show inV (.str hd) [.str "name",.str "set"]=true from ?_);rw [JF,B4,Ax,Ax];exact z
   refine ⟨qQ O0,fun pf hpf=>?_⟩;exact rest _ pf _ _ rfl (g2.trans (qe hpf _)) (g2.free hpf) (by rw [upd_same,Tre.yf hh];rfl) fun σ H'=>rfl
theorem qhn {fB:Addr} {dB:FuncData} (F:Fun K "_law_used" "_law_used" JZ fB dB) (kB:Known K mg "_law_used" ["_law_part"] fB dB) (c:Cs K mg ad) (d_law_inner:Def P w K mg base 1 "_law_inner" ["_law_part"] (spLI K)):∀ n:Nat,Def P w K mg base (n+1) "_law_used" ["_law_part"] (spLU K n)
 | 0=>by
  have no:∀ vs H Q E,spLU K 0 vs H Q E→False:=fun vs H Q E h=>by
   obtain ⟨x,d,s,t,_,_,tr,_,ht,_⟩:=h;cases tr;omega
  exact kB.out ⟨fun vs H Q E h=>(no _ _ _ _ h).elim,fun _ _ _ _ _ _ _ _ _ _ _ _ _ h=>(no _ _ _ _ h).elim⟩
 | n+1=>kB.out (ZI F c n d_law_inner (qhn F kB c d_law_inner n))
end
end Mine
namespace L2
open PySem PySem.Spec PyProof.Rows
section
variable {K:Frag} {H H':Hp}
def But (p:Addr) (H H':Hp):Prop:=∀ b o,b≠p→H b=some o→H' b=some o
theorem But.trans {p:Addr} {H2:Hp} (a:But p H H') (b:But p H' H2):But p H H2:=fun c o n e=>b c o n (a c o n e)
theorem But.of {p:Addr} (g:qw H H'):But p H H':=fun b o _ e=>g b o e
theorem But.put {p:Addr} {o':HO}:But p H (upd H p o'):=fun b o n e=>by rw [qm n];exact e
theorem But.tp {p:Addr} {o:HO} (g:But p H H') (hp:H p=some o) (n:qk0 o=true):Tp H H':=fun b xs h=>by
 have nb:b≠p:=fun z=>by
  subst z;rcases h with h | ⟨ob,h⟩
  ·rw [hp] at h;cases h;cases n
  ·rw [hp] at h;cases h;cases n
 rcases h with h | ⟨ob,h⟩
 ·exact .inl (g _ _ nb h)
 ·exact .inr ⟨ob,g _ _ nb h⟩
end
end L2
namespace Tre
open PySem
theorem Acc.nol {acc:List PyData} (h:Acc acc):zO acc=true:=(wv (n:=60) fun e he=>by
 obtain ⟨_,_,_,_,_,g⟩:=h.all e he;exact g).1
theorem qer {d:PyData} {u:Str} {hands:Bool} (h:qK d u hands=true) (hu:u="term"∨u="statement"):∃ hd ts,d= .tuple (.str hd::ts)∧hd≠"main":=by
 obtain ⟨hd,ts,fs,l,rfl,e1,e2,_⟩:=qV h;refine ⟨hd,ts,rfl,fun z=>?_⟩;subst z;rcases hu with rfl | rfl
 ·have q:heads.lookup ("term":Str)=some (["number","name","two","fun","loop","call","step"]:List Str):=∅;rw [q] at e1;cases e1;exact absurd e2 ∅
 ·have q:heads.lookup ("statement":Str)=some (["let","set","do","if","while","hand","back","fault","try"]:List Str):=∅;rw [q] at e1;cases e1;exact absurd e2 ∅
end Tre
namespace Mine
open PySem L2
section
variable {P:Program} {w:World} {K:Frag} {mg:Str→Option Value} {base:Heap} {f:Addr} {fd:FuncData} {ad:Ad}
theorem qjk {h:Str} (hm:h≠"main"):inV (.str h) [.str "fun",.str "loop"]=Tre.holds h:=by
 have q:=ZY h;rw [As fun z=>hm (V.str.inj z),Bool.false_or] at q;exact q
inductive RowAt (H:Hp) (v:V) (r:Tre.Row):Prop
 | mk:∀ q n u h,(v= .ref q)→(H q=some (.tup [.str h,.ref n,.ref u,oV r.outer]))→(H n=some (.lst (r.names.map V.str)))→(H u=some (.lst (r.used.map V.str)))→RowAt H v r
abbrev zw (H:Hp):List V→List Tre.Row→Prop:=Paired (RowAt H)
theorem zw.same {H H':Hp} {zs:List V} {rs:List Tre.Row} (g:qw H H') (h:zw H zs rs):zw H' zs rs:=L2.Paired.mapP h fun _ _ ⟨q,n,u,k,e,a,b,c⟩=>⟨q,n,u,k,e,g _ _ a,g _ _ b,g _ _ c⟩
theorem qal {x:Addr} {r:List V} (l:List Str) (h:l.map V.str= .ref x::r):False:=by
 cases l with
 | nil=>cases h
 | cons a b=>cases h
theorem zw.but {H H':Hp} {p x:Addr} {r0:List V} {zs:List V} {rs:List Tre.Row} (hp:H p=some (.lst (.ref x::r0))) (g:But p H H') (h:zw H zs rs):zw H' zs rs:=
 L2.Paired.mapP h fun _ _ ⟨q,n,u,k,e,a,b,c⟩=>⟨q,n,u,k,e,g _ _ (fun z=>by rw [z,hp] at a;cases a) a,g _ _ (fun z=>by rw [z,hp] at b;exact qal _ (HO.lst.inj (Be b)).symm) b,g _ _ (fun z=>by rw [z,hp] at c;exact qal _ (HO.lst.inj (Be c)).symm) c⟩
theorem zw.append {H:Hp}:∀ {ys zs:List V} {l m:List Tre.Row},zw H ys l→zw H zs m→zw H (ys++zs) (l++m)
 | _,_,_,_,.nil,h=>h
 | _,_,_,_,.cons r t,h=> .cons r (zw.append t h)
theorem zw.head {H:Hp} {zs:List V} {rs:List Tre.Row} (h:zw H zs rs) (n:rs≠[]):∃ a r,zs= .ref a::r:=by
 cases h with
 | nil=>exact absurd rfl n
 | cons a b=>
  obtain ⟨q,_,_,_,e,_⟩:=a;exact ⟨q,_,by rw [e]⟩
inductive spGat (K:Frag) (n:Nat) (vs:List V) (H:Hp) (Q:VK) (E':XK):Prop
 | mk:∀ x d sh hands s t num pf zs acc,(vs=[x,.int (num:Nat),.ref pf])→(Rep K H x d)→(Tre.Pt d sh hands s t)→(t≤n)→(n≤12)→(s≤300)→(H pf=some (.lst zs))→(zw H zs (Tre.jX acc))→(Tre.Acc acc)→(acc≠[])→(acc.length+s+n≤500)→(∀ H' zs',But pf H H'→H' pf=some (.lst zs')→zw H' zs' (Tre.jX (Tre.jO 30 (Tre.zm d) (.int (num:Nat)) acc))→Q .non H')→spGat K n vs H Q E'
inductive PvT (K:Frag) (d:PyData) (hands:Bool) (x:V) (num:Nat) (pf:Addr) (acc:List PyData) (n:Nat) (H1:Hp) (i:Nat) (σ:St) (H':Hp):Prop
 | mk:∀ zs' acc' o3 o4 o5 o6 s' t',(σ=[some x,some (.int (num:Nat)),some (.ref pf),o3,o4,o5,o6])→(But pf H1 H')→(H' pf=some (.lst zs'))→(zw H' zs' (Tre.jX acc'))→(acc'=Tre.jO 30 ((Tre.zm d).take i) (.int (num:Nat)) acc)→(Tre.Acc acc')→(acc'≠[])→(Tre.Ptl ((Tre.zi d).drop i) (Tre.j5 d hands) s' t')→(t'≤n)→(s'≤300)→(acc'.length+s'+n+2≤500)→PvT K d hands x num pf acc n H1 i σ H'
theorem qgb {acc:List PyData} (h:acc≠[]):Tre.jX acc≠[]:=by
 cases acc with
 | nil=>exact absurd rfl h
 | cons a b=>intro z;cases z
inductive Iv_NamJ_0 (H4:Hp) (x:V) (pf:Addr) (a2:Addr) (xs:List PyData) (num:Nat) (o4:Option V) (i:Nat) (σ:St) (H':Hp):Prop
 | mk:∀ pu o6,(σ=[some x,some (.int (num:Nat)),some (.ref pf),some (.ref a2),o4,some (.ref pu),o6])→(H4 pu=none)→(qw H4 H')→(H' pu=some (.lst (((xs.take i).flatMap (Tre.jg 30)).map V.str)))→Iv_NamJ_0 H4 x pf a2 xs num o4 i σ H'
theorem qgh {H4:Hp} {x:V} {pf a2:Addr} {hd:Str} {ns xs:List PyData} {y1 y2:V} {zs:List V} {acc:List PyData} {num:Nat} {o4 o5 o6:Option V} {s t:Nat} {D:Ends} (hz:H4 pf=some (.lst zs)) (rz:zw H4 zs (Tre.jX acc)) (ne:acc≠[]) (hlen:acc.length≤500)
  (hq:SqT K H4 a2 [.str hd,y1,y2]) (r1:Rep K H4 y1 (.tuple ns)) (hn1:ns.all Tre.zh=true) (hn2:ns.length≤4) (r2:Rep K H4 y2 (.tuple xs)) (tl:Tre.Trl xs s t) (hs:s≤300) (ht:t≤12)
  (hD:∀ H5 zs5 o5 o6,But pf H4 H5→H5 pf=some (.lst zs5)→zw H5 zs5 (Tre.jX (acc++[.tuple [.str hd,.tuple ns,.tuple xs,.int (num:Nat)]]))→D.nx [some x,some (.int (num:Nat)),some (.ref pf),some (.ref a2),some (.int (acc.length:Nat)),o5,o6] H5):
  qG (qX (Jv qo) (qv 5)) (qG (Vj (v3 K (tOp (rIx K) (qg 3) (tC (V.int 2)))) (qv 6) (qX (tOp zW (qg 5) (qE (spLU K 12) [] E0 (qd (qg 6) qo))) (qv 5)))
   (qG (zQ (tBM K "list" z9 (qg 2) (qd (jl (qd (tOp (rIx K) (qg 3) (tC (V.int 0))) (qd (tOp zW (tCB (fun xs H Q=>∃ p ys,xs=[V.ref p]∧(SqL K H p ys∨SqT K H p ys)∧∀ l,H l=none→Q (V.ref l) (upd H l (HO.lst ys))) (qd (tOp (rIx K) (qg 3) (tC (V.int 1))) qo)) (qE (spBro K 13) [] E0 (qd (tOp (rIx K) (qg 3) (tC (V.int 2))) qo))) (qd (qg 5) (qd (qg 1) qo))))) qo)))
    (qX (tOp (rI0 fun i j=>V.int (i - j)) (tCB (fun xs H Q=>∃ x n,xs=[x]∧v9 K x H n∧Q (V.int ↑n) H) (qd (qg 2) qo)) (tC (V.int 1))) (qv 4)))) D [some x,some (.int (num:Nat)),some (.ref pf),some (.ref a2),o4,o5,o6] H4:=by
 refine ⟨qQ O0,fun pu hpu=>?_⟩;have g5:=qe hpu (.lst []);have h5:upd H4 pu (.lst []) pu=some (.lst []):=upd_same;generalize upd H4 pu (.lst [])=H5 at g5 h5 ⊢;obtain ⟨ab,ws,rfl,hqb,rsb⟩:=r2.tup_inv;have hwl:=rsb.length;have few:=tl.few;have ul:=tl.uses_le 30;have bl:=Tre.yT _ tl (Ah _);refine ⟨_,rfl,ixT (g5.sqT hq) (qk (j:=2) rfl) (.inr (.inl ⟨ab,rfl,⟨ws,g5.sqT hqb⟩,?_⟩))⟩;refine yD rsb (Iv_NamJ_0 H4 x pf a2 xs num o4) ?_ (fun i σ H' h=>?_) (fun i σ H7 v e hi he re h D' hn _=>?_) (fun σ H6 h=>?_)
 ·exact ⟨pu,_,rfl,hpu,g5,h5⟩
 ·obtain ⟨pu,o6,rfl,hpu,g6,h6⟩:=h;exact g6.sqT hqb
 ·obtain ⟨pu,o6,rfl,hpu,g6,h6⟩:=h;obtain ⟨s1,t1,tr1,hs1,ht1⟩:=tl.mem e (A9 he);have ee:(xs.take (i+1)).flatMap (Tre.jg 30)=(xs.take i).flatMap (Tre.jg 30)++Tre.jg 30 e:=by
   rw [Bb,he,Ch];simp
  have all:((xs.take (i+1)).flatMap (Tre.jg 30)).length≤300:=by
   rw [← Dh (i+1) xs,Ch,Ac] at ul;omega
  rw [ee,Ac] at all;refine ⟨_,rfl,_,rfl,v,e,s1,t1,rfl,re.same g6,tr1,⋯,⋯,O0,fun H8 q1 g8 hq1 h8=>?_⟩;refine Wv (g8 _ _ h6) h8 (qQ (by rw [Ab,Ab];omega)) fun q2 hq2=>?_
  refine hn _ _ ⟨q2,_,rfl,(g6.trans g8).free hq2,(g6.trans g8).trans (qe hq2 _),?_⟩;rw [upd_same,ee,← An]
 ·obtain ⟨pu,o6,rfl,hpu,g6,h6⟩:=h;rw [Bp] at h6;obtain ⟨an,wn,rfl,hqn,rsn⟩:=r1.tup_inv;have en:=WO rsn hn1;have hq6:=g6.sqT hq;have hz6:=g6 _ _ hz;refine ⟨_,rfl,.inl ⟨rfl,_,SqL.of hz6⟩,v8 ⟨_,rfl,ixT hq6 (qk (j:=0) rfl) ⟨_,rfl,ixT hq6 (qk (j:=1) rfl) ⟨an,wn,rfl,.inr (g6.sqT hqn),fun l1 hl1=>?_⟩⟩⟩⟩;have g7:=g6.trans (qe hl1 (.lst wn));have h7:upd H6 l1 (.lst wn) l1=some (.lst wn):=upd_same;have h67:=qe hl1 (.lst wn);generalize upd H6 l1 (.lst wn)=H7 at g7 h7 h67 ⊢;refine ⟨_,rfl,ixT (g7.sqT hq) (qk (j:=2) rfl) ⟨_,xs,s,t,rfl,.tup (g7.sqT hqb) (rsb.same g7),tl,hs,⋯,fun H8 l2 g8 hl2 h8=>?_⟩⟩;refine Wv (g8 _ _ h7) h8 (qQ (by rw [en];simp only [Ac,Ab,At,Aj,Bj,A4];omega)) fun l3 hl3=>?_
  have g9:=g8.trans (qe hl3 (.lst (wn++(Tre.brL xs).map V.str)));have h9:upd H8 l3 (.lst (wn++(Tre.brL xs).map V.str)) l3=some (.lst (wn++(Tre.brL xs).map V.str)):=upd_same;generalize upd H8 l3 (.lst (wn++(Tre.brL xs).map V.str))=H9 at g9 h9 ⊢;refine ⟨_,rfl,_,rfl,qQ (by simp only [Ac,Ab,At,Aj,Bj,A4];omega),fun p4 hp4=>?_⟩
  have ga:=qe hp4 (.tup [.str hd,.ref l3,.ref pu,.int (num:Nat)]);have ha:upd H9 p4 (.tup [.str hd,.ref l3,.ref pu,.int (num:Nat)]) p4=some (.tup [.str hd,.ref l3,.ref pu,.int (num:Nat)]):=upd_same;generalize upd H9 p4 (.tup [.str hd,.ref l3,.ref pu,.int (num:Nat)])=Ha at ga ha ⊢;have g4a:=(g7.trans g9).trans ga;have hza:=g4a _ _ hz;have hzl:=Ce rz;rw [Ab] at hzl;refine (apd hza (Jx ⋯) ?_);obtain ⟨z0,zr,rfl⟩:=rz.head (qgb ne);have row:zw Ha [.ref p4] [Tre.YK (.tuple [.str hd,.tuple ns,.tuple xs,.int (num:Nat)])]:=by
   refine .cons ⟨p4,l3,pu,hd,rfl,ha,?_,((h67.trans g9).trans ga) _ _ h6⟩ .nil;rw [ga _ _ h9,en,← An];rfl
  have all:=((rz.same g4a).append row).but hza (But.put (o':= .lst (.ref z0::zr++[.ref p4])));have bp:But pf H4 (upd Ha pf (.lst (.ref z0::zr++[.ref p4]))):=(But.of g4a).trans But.put;have hp:upd Ha pf (.lst (.ref z0::zr++[.ref p4])) pf=some (.lst (.ref z0::zr++[.ref p4])):=upd_same;dsimp only;generalize upd Ha pf (.lst (.ref z0::zr++[.ref p4]))=Hb at all bp hp ⊢;refine ⟨_,rfl,_,_,rfl,.inl ⟨_,SqL.of hp,rfl⟩,_,_,rfl,rfl,?_⟩;have eo:(((.ref z0::zr++[V.ref p4]).length:Nat):Int) - 1=((acc.length:Nat):Int):=by rw [Ac,At,hzl];omega
  dsimp only;rw [eo];refine hD Hb _ _ _ bp hp ?_;unfold Tre.jX;rw [An];exact all
def wN (K:Frag):TS:=qX (tOp zW (qg 5) (qE (spLU K 12) [] E0 (qd (qg 6) qo))) (qv 5)
def wM (K:Frag):TS:=qX (tOp (rI0 fun i j=>V.int (i - j)) (tCB (fun xs H Q=>∃ x n,xs=[x]∧v9 K x H n∧Q (V.int ↑n) H) (qd (qg 2) qo)) (tC (V.int 1))) (qv 4)
def wL (K:Frag):TS:=qG (zQ (tBM K "list" z9 (qg 2) (qd (jl (qd (tOp (rIx K) (qg 3) (tC (V.int 0))) (qd (tOp zW (tCB (fun xs H_1 Q=>∃ p ys,xs=[V.ref p]∧(SqL K H_1 p ys∨SqT K H_1 p ys)∧∀ (l:Addr),H_1 l=none→Q (V.ref l) (upd H_1 l (HO.lst ys))) (qd (tOp (rIx K) (qg 3) (tC (V.int 1))) qo)) (qE (spBro K 13) [] E0 (qd (tOp (rIx K) (qg 3) (tC (V.int 2))) qo))) (qd (qg 5) (qd (qg 1) qo))))) qo))) (wM K)
def wK (K:Frag):TS:=qG (Vj (v3 K (tOp (rIx K) (qg 3) (tC (V.int 2)))) (qv 6) (wN K)) (wL K)
def wJ (K:Frag):TS:=qG (qX (Jv qo) (qv 5)) (wK K)
def wI (K:Frag) (n:Nat):TS:=zQ (qE (spGat K n) [] E0 (qd (qg 3) (qd (qg 4) (qd (qg 2) qo))))
def wH (K:Frag) (n:Nat):TS:=qG (zz (qI (tOp (rIn K false) (tOp (rIx K) (qg 3) (tC (V.int 0))) (jl (qd (tC (V.str "fun")) (qd (tC (V.str "loop")) qo))))) (wJ K) zg) (wI K n)
def wG (K:Frag) (n:Nat):TS:=qG (qX (qg 1) (qv 4)) (wH K n)
theorem Wr (F:Fun K "_law_gathered" "_law_gathered" jC f fd) (c:Cs K mg ad) (n:Nat) (d_law_inner:Def P w K mg base 1 "_law_inner" ["_law_part"] (spLI K)) (d_law_brought:Def P w K mg base 13 "_law_brought" ["_law_body_here"] (spBro K 13)) (d_law_used:Def P w K mg base 13 "_law_used" ["_law_part"] (spLU K 12)) (d_law_gathered:Def P w K mg base (n+14) "_law_gathered" ["_law_part","_law_number_here","_law_found"] (spGat K n)):FnOk P w K mg base CX0 (n+15) f fd ["_law_part","_law_number_here","_law_found"] (spGat K (n+1)):=by
 refine F.ok (k:=n+14) zq (fun vs H Q E h=>?_) (fun cdv A outer s H vs Q E hr h=>?_)
 ·obtain ⟨x,d,sh,hands,s,t,num,pf,zs,acc,rfl,_⟩:=h;rfl
 obtain ⟨x,d,sh,hands,s,t,num,pf,zs,acc,rfl,hk,pt,ht,hn,hs,hz,rz,ac,ne,hlen,q⟩:=h;refine ⟨_,(qi (jf Bt rfl (JP (K:=K) rfl (pdf d_law_inner (qb (pv 0) qc))) (pgn 3 zq.nd) (qf (pst 4 zq.nd (pv 1))
   (qf (qN (qt (yx (K:=K) rfl) (pix K (pv 3) qh) (qO (qb qp (qb qp qc))) rfl) (qf (pst 5 zq.nd (zj qc))
   (qf (jf Bt rfl (JP (K:=K) rfl (pix K (pv 3) qh)) (pgn 6 zq.nd) (qi (pst 5 zq.nd (qu zb (pv 5) (pdf d_law_used (qb (pv 6) qc))))))
   (qf (za (JN (K:=K) rfl A5 B0 Bz zX (pv 2) (qb (qO (qb (pix K (pv 3) qh) (qb (qu zb (zk vc (by rfl) c.list_ WT (qb (pix K (pv 3) qh) qc)) (pdf d_law_brought (qb (pix K (pv 3) qh) qc))) (qb (pv 5) (qb (pv 1) qc))))) qc)))
   (qi (pst 4 zq.nd (qu zu (qz (jw (K:=K) rfl) (by rfl) c.len_ zJ (qb (pv 2) qc)) qh)))))) qB)
   (qi (za (pdf d_law_gathered (qb (pv 3) (qb (pv 4) (qb (pv 2) qc)))))))))),?_⟩
 show Vj (v3 K (qE (spLI K) [] E0 (qd (qg 0) qo))) (qv 3) (wG K n) _ _ _;have tr:=pt.tr;have gd:=tr.gd;refine ⟨_,rfl,x,d,s,t,H,rfl,qw.refl _,hk,tr,⋯,fun H1 pl ks g1 hpl hl1 rk=> .inl ⟨pl,rfl,⟨ks,SqL.of hl1⟩,?_⟩⟩;have npl:pl≠pf:=fun z=>by rw [z,hz] at hpl;cases hpl
 have hkl:=rk.length;refine pt.el fun s0 t0 es et hf pl0=>?_;have kil:(Tre.zm d).length=(Tre.zi d).length:=by unfold Tre.zm;rw [Ab]
 have rk1:=rk.same g1;refine qfb rk1 (PvT K d hands x num pf acc n H1) ?_ (fun i σ H' h=>?_) (fun i σ H3 v e hi he re h D' hX _=>?_) (fun σ H2 h=>?_)
 ·exact ⟨zs,acc,none,none,none,none,s0,t0,rfl,fun b o _ e=>e,g1 _ _ hz,rz.same g1,rfl,ac,ne,pl0,⋯,⋯,⋯⟩
 ·obtain ⟨_,_,_,_,_,_,_,_,_,b2,_⟩:=h;exact SqL.of (b2 _ _ npl hl1)
 ·obtain ⟨zs',acc',o3,o4,o5,o6,s',t',rfl,b2,hz2,rz2,ea,ac2,ne2,pt2,ht2,hs2,hl2⟩:=h;rw [kil] at hi;have hzi:(Tre.zi d)[i]?=some ((Tre.zi d)[i]'hi):=Aq hi;have eu:((Tre.zi d)[i]'hi).1=e:=by
   unfold Tre.zm at he;rw [A0,hzi] at he;exact Be he
  have hdr:(Tre.zi d).drop i=(Tre.zi d)[i]'hi::(Tre.zi d).drop (i+1):=List.drop_eq_getElem_cons hi;have hsort:((Tre.zi d)[i]'hi).2="term"∨((Tre.zi d)[i]'hi).2="statement":=Tre.yt (d:=d) (e:=((Tre.zi d)[i]'hi).1) (Dq hi);rw [hdr] at pt2;generalize (Tre.zi d)[i]'hi=z at hzi eu hdr hsort pt2;obtain ⟨z1,u⟩:=z;cases eu;refine pt2.el fun s1 t1 s2 t2 es2 et2 pe pr=>?_;have hform:Tre.qK z1 u (Tre.j5 d hands)=true:=by
   cases pe with
   | mk h _=>exact h
  obtain ⟨hd,ts,rfl,hm⟩:=Tre.qer hform hsort;have tre:=pe.tr;have nole:=tre.gd.nol;have re3:Rep K H3 v (.tuple (.str hd::ts)):=Rep.tp (b2.tp (g1 _ _ hz) rfl) re nole;have vis:=Tre.Vh (o:= .int (num:Nat)) (acc:=acc') tre ⋯;have st4:=Tre.Qj (k:=(num:Nat)) tre ⋯ ne2 ac2;have al:=Tre.X3 (.tuple (.str hd::ts)) (.int (num:Nat)) acc';have fin3:∀ b,Tre.holds hd=b→Tre.isFn (.tuple (.str hd::ts))=b:=fun b e=>e;have ik:=qjk hm;have rest:∀ (H4:Hp) (zs4:List V) (here:Nat) (o5 o6:Option V) (D:Ends),But pf H1 H4→H4 pf=some (.lst zs4)→zw H4 zs4 (Tre.jX (Tre.zx (.tuple (.str hd::ts)) (.int (num:Nat)) acc'))→Tre.ja (.tuple (.str hd::ts)) (.int (num:Nat)) acc'= .int (here:Nat)→(∀ σ H',PvT K d hands x num pf acc n H1 (i+1) σ H'→D.nx σ H')→
    zQ (qE (spGat K n) [] E0 (qd (qg 3) (qd (qg 4) (qd (qg 2) qo)))) D [some x,some (.int (num:Nat)),some (.ref pf),some v,some (.int (here:Nat)),o5,o6] H4:=fun H4 zs4 here o5 o6 D b4 hz4 rz4 eo hD=>by
   refine ⟨_,rfl,_,rfl,_,rfl,v,_,u,_,s1,t1,here,pf,zs4,_,rfl,Rep.tp (b4.tp (g1 _ _ hz) rfl) re nole,pe,⋯,⋯,⋯,hz4,rz4,st4.1,st4.2,⋯,fun H5 zs5 b5 hz5 rz5=>?_⟩;have ev2:Tre.jO 30 (Tre.zm (.tuple (.str hd::ts))) (.int (here:Nat)) (Tre.zx (.tuple (.str hd::ts)) (.int (num:Nat)) acc')=Tre.jJ 30 (.tuple (.str hd::ts)) (.int (num:Nat)) acc':=by rw [vis,eo]
   rw [ev2] at rz5;have e5:Tre.jJ 30 (.tuple (.str hd::ts)) (.int (num:Nat)) acc'=Tre.jO 30 (List.take (i+1) (Tre.zm d)) (.int (num:Nat)) acc:=by
    rw [Bb,he,Tre.jO,List.foldl_append];show _=List.foldl _ (List.foldl _ acc _) [_];rw [B3,List.foldl_nil,ea]
   have fz:Tre.Acc (Tre.jJ 30 (.tuple (.str hd::ts)) (.int (num:Nat)) acc')∧Tre.jJ 30 (.tuple (.str hd::ts)) (.int (num:Nat)) acc'≠[]∧(Tre.jJ 30 (.tuple (.str hd::ts)) (.int (num:Nat)) acc').length≤acc'.length+s1:=by
    have q:=Tre.yL 30 (num:Nat) acc' (by simpa using Tre.Trl.cons tre .nil) ⋯ ne2 ac2
    exact q
   exact hD _ _ ⟨zs5,_,_,_,_,_,s2,t2,rfl,b4.trans b5,hz5,rz5,e5,fz.1,fz.2.1,pr,⋯,⋯,⋯⟩
  refine ⟨_,rfl,?_⟩;refine re3.tp1 fun a2 ys3 e2 hq2 rs2=>?_;subst e2;refine ⟨_,rfl,ixT hq2 (qk (j:=0) rfl) ⟨qQ O0,fun p1 hp1=>?_⟩⟩;have gp:=qe hp1 (.tup [.str "fun",.str "loop"]);refine (inS (.inr (SqT.of upd_same)) rfl rfl ⟨_,rfl,?_⟩);generalize upd H3 p1 (.tup [.str "fun",.str "loop"])=H4 at gp ⊢;refine v1 (fun hn=>?_) (fun hn=>?_)
  ·have hh:Tre.holds hd=true:=ik.symm.trans hn;have eA:Tre.zx (.tuple (.str hd::ts)) (.int (num:Nat)) acc'=acc'++[Tre.fnOf (.tuple (.str hd::ts)) (.int (num:Nat))]:=by unfold Tre.zx;rw [if_pos (fin3 _ hh)]
   have eO:Tre.ja (.tuple (.str hd::ts)) (.int (num:Nat)) acc'= .int (acc'.length:Nat):=by unfold Tre.ja;rw [if_pos (fin3 _ hh)]
   obtain ⟨_,ns,xs,ed,hn1,hn2,hkx⟩:=Tre.yF hform (fin3 _ hh);cases ed;have trl:∃ s' t',Tre.Trl xs s' t'∧s'≤300∧t'≤12:=by
    cases tre with
    | @mk _ _ _ s5 t5 _ tl5=>exact ⟨s5,t5,hkx▸tl5,⋯,⋯⟩
   obtain ⟨s5,t5,tl5,hs5,ht5⟩:=trl;refine rs2.ct fun ya _ ea ra rs2=>rs2.ct fun yb _ eb rb rs2=>?_;cases rs2.nilI;subst eb;subst ea;refine qgh (gp _ _ hz2) (rz2.same gp) ne2 ⋯ (gp.sqT hq2) (ra.same gp) hn1 hn2 (rb.same gp) tl5 hs5 ht5 fun H5 zs5 o5 o6 b5 hz5 rz5=>?_;exact rest H5 zs5 _ o5 o6 _ ((b2.trans (But.of gp)).trans b5) hz5 (by rw [eA];exact rz5) eO hX
  ·have hh:Tre.holds hd=false:=ik.symm.trans (Bo.mpr hn);have eA:Tre.zx (.tuple (.str hd::ts)) (.int (num:Nat)) acc'=acc':=by unfold Tre.zx;rw [if_neg (by rw [fin3 _ hh];exact Ag)]
   have eO:Tre.ja (.tuple (.str hd::ts)) (.int (num:Nat)) acc'= .int (num:Nat):=by unfold Tre.ja;rw [if_neg (by rw [fin3 _ hh];exact Ag)]
   exact rest H4 _ _ _ _ _ (b2.trans (But.of gp)) (gp _ _ hz2) (by rw [eA];exact rz2.same gp) eO hX
 ·obtain ⟨zs',acc',o3,o4,o5,o6,s',t',rfl,b2,hz2,rz2,ea,ac2,ne2,pt2,ht2,hl2⟩:=h;rw [Dc ⋯] at ea;exact q _ zs' ((But.of g1).trans b2) hz2 (ea▸rz2)
theorem qa6 {fG:Addr} {dG:FuncData} (F:Fun K "_law_gathered" "_law_gathered" jC fG dG) (kG:Known K mg "_law_gathered" ["_law_part","_law_number_here","_law_found"] fG dG) (c:Cs K mg ad) (d_law_inner:Def P w K mg base 1 "_law_inner" ["_law_part"] (spLI K)) (d_law_brought:Def P w K mg base 13 "_law_brought" ["_law_body_here"] (spBro K 13)) (d_law_used:Def P w K mg base 13 "_law_used" ["_law_part"] (spLU K 12)):∀ n:Nat,Def P w K mg base (n+14) "_law_gathered" ["_law_part","_law_number_here","_law_found"] (spGat K n)
 | 0=>by
  have no:∀ vs H Q E,spGat K 0 vs H Q E→False:=fun vs H Q E h=>by
   obtain ⟨x,d,sh,hands,s,t,num,pf,zs,acc,_,_,pt,ht,_⟩:=h;cases pt;omega
  exact kG.out ⟨fun vs H Q E h=>(no _ _ _ _ h).elim,fun _ _ _ _ _ _ _ _ _ _ _ _ _ h=>(no _ _ _ _ h).elim⟩
 | n+1=>kG.out (Wr F c n d_law_inner d_law_brought d_law_used (qa6 F kG c d_law_inner d_law_brought d_law_used n))
end
end Mine
namespace Tre
open PySem
theorem WY (x:Str):∀ (l seen:List Str),zp seen (l++[x])=zp seen l++(if (seen++l).contains x=true then [x] else [])
 | [],seen=>by
  rw [Bw,zp,zp,zp,A6,Bw]
 | y::r,seen=>by
  rw [C5,zp,zp,WY x r (seen++[y]),B6];split <;> rfl
end Tre
namespace Mine
open PySem L2
section
variable {P:Program} {w:World} {K:Frag} {mg:Str→Option Value} {base:Heap} {f:Addr} {fd:FuncData} {ad:Ad}
inductive spAll (K:Frag) (vs:List V) (H:Hp) (Q:VK) (E':XK):Prop
 | mk:∀ x d s t,(vs=[x])→(Rep K H x d)→(Tre.Pt d "program" false s t)→(s≤300)→(t≤12)→(∀ H' p zs,qw H H'→H' p=some (.lst zs)→zw H' zs (Tre.jX (Tre.funs d))→Q (.ref p) H')→spAll K vs H Q E'
inductive Iv_NamL_0 (H:Hp) (xs:List PyData) (a2:Addr) (i:Nat) (σ:St) (H':Hp):Prop
 | mk:∀ pu o2,(σ=[some (.ref a2),some (.ref pu),o2,none])→(H pu=none)→(qw H H')→(H' pu=some (.lst (((xs.take i).flatMap (Tre.jg 30)).map V.str)))→Iv_NamL_0 H xs a2 i σ H'
def Qu (K:Frag):TS:=qX (tOp zW (qg 1) (qE (spLU K 12) [] E0 (qd (qg 2) qo))) (qv 1)
def Qt (K:Frag):TS:=qG (zQ (qE (spGat K 12) [] E0 (qd (qg 0) (qd (tC (V.int 0)) (qd (qg 3) qo))))) (jb (qg 3))
def Qs (K:Frag):TS:=qG (qX (Jv (qd (jl (qd (tC (V.str "main")) (qd (tOp zW (tCB (fun xs H_1 Q=>∃ p ys,xs=[V.ref p]∧(SqL K H_1 p ys∨SqT K H_1 p ys)∧∀ (l:Addr),H_1 l=none→Q (V.ref l) (upd H_1 l (HO.lst ys))) (qd (tOp (rIx K) (qg 0) (tC (V.int 1))) qo)) (qE (spBro K 13) [] E0 (qd (tOp (rIx K) (qg 0) (tC (V.int 2))) qo))) (qd (qg 1) (qd (tC V.non) qo))))) qo)) (qv 3)) (Qt K)
def Qr (K:Frag):TS:=qG (Vj (v3 K (tOp (rIx K) (qg 0) (tC (V.int 2)))) (qv 2) (Qu K)) (Qs K)
theorem QP (F:Fun K "_law_all" "_law_all" wf f fd) (c:Cs K mg ad) (d_law_brought:Def P w K mg base 13 "_law_brought" ["_law_body_here"] (spBro K 13)) (d_law_used:Def P w K mg base 13 "_law_used" ["_law_part"] (spLU K 12)) (d_law_gathered:Def P w K mg base 26 "_law_gathered" ["_law_part","_law_number_here","_law_found"] (spGat K 12)):FnOk P w K mg base CX0 27 f fd ["_law_program_here"] (spAll K):=by
 refine F.ok Jl (fun vs H Q E h=>?_) (fun cdv A outer s H vs Q E hr h=>?_)
 ·obtain ⟨x,d,s,t,rfl,_⟩:=h;rfl
 obtain ⟨x,d,s,t,rfl,hk,pt,hs,ht,q⟩:=h;refine ⟨_,(qf (pst 1 Jl.nd (zj qc))
   (qf (jf Bt rfl (JP (K:=K) rfl (pix K (pv 0) qh)) (pgn 2 Jl.nd) (qi (pst 1 Jl.nd (qu zb (pv 1) (pdf d_law_used (qb (pv 2) qc))))))
   (qf (pst 3 Jl.nd (zj (qb (qO (qb qp (qb (qu zb (zk vc (by rfl) c.list_ WT (qb (pix K (pv 0) qh) qc)) (pdf d_law_brought (qb (pix K (pv 0) qh) qc))) (qb (pv 1) (qb J6 qc))))) qc)))
   (qf (za (pdf d_law_gathered (qb (pv 0) (qb qh (qb (pv 3) qc)))))
   (qi (qy (pv 3))))))),?_⟩
 show qG (qX (Jv qo) (qv 1)) (Qr K) _ _ _;have tr:=pt.tr;obtain ⟨⟨da,db,ed0,ev⟩,accF,lenF⟩:=Tre.vX pt ⋯;have hform:Tre.qK d "program" false=true:=by
  cases pt with
  | mk h _=>exact h
 have hfn:Tre.isFn d=true:=by rw [ed0];exact (∅:Tre.holds "main"=true)
 obtain ⟨hd,ns,xs,ed,hn1,hn2,hkx⟩:=Tre.yF hform hfn;subst ed;cases ed0;have trl:∃ s' t',Tre.Trl xs s' t'∧s'≤300∧t'≤12:=by
  cases tr with
  | @mk _ _ _ s5 t5 _ tl5=>exact ⟨s5,t5,hkx▸tl5,⋯,⋯⟩
 obtain ⟨s5,t5,tl,hs5,ht5⟩:=trl;refine ⟨qQ O0,fun pu hpu=>?_⟩;have g5:=qe hpu (.lst []);have h5:upd H pu (.lst []) pu=some (.lst []):=upd_same;generalize upd H pu (.lst [])=H5 at g5 h5 ⊢;refine hk.tp3 fun a2 y1 y2 e' hq r1 r2=>?_;subst e';obtain ⟨ab,ws,rfl,hqb,rsb⟩:=r2.tup_inv;have hwl:=rsb.length;have few:=tl.few;have ul:=tl.uses_le 30;have bl:=Tre.yT _ tl (Ah _);refine ⟨_,rfl,ixT (g5.sqT hq) (qk (j:=2) rfl) (.inr (.inl ⟨ab,rfl,⟨ws,g5.sqT hqb⟩,?_⟩))⟩;refine yD rsb (Iv_NamL_0 H xs a2) ?_ (fun i σ H' h=>?_) (fun i σ H7 v e hi he re h D' hn _=>?_) (fun σ H6 h=>?_)
 ·exact ⟨pu,_,rfl,hpu,g5,h5⟩
 ·obtain ⟨pu,o6,rfl,hpu,g6,h6⟩:=h;exact g6.sqT hqb
 ·obtain ⟨pu,o6,rfl,hpu,g6,h6⟩:=h;obtain ⟨s1,t1,tr1,hs1,ht1⟩:=tl.mem e (A9 he);have ee:(xs.take (i+1)).flatMap (Tre.jg 30)=(xs.take i).flatMap (Tre.jg 30)++Tre.jg 30 e:=by
   rw [Bb,he,Ch];simp
  have all:((xs.take (i+1)).flatMap (Tre.jg 30)).length≤300:=by
   rw [← Dh (i+1) xs,Ch,Ac] at ul;omega
  rw [ee,Ac] at all;refine ⟨_,rfl,_,rfl,v,e,s1,t1,rfl,re.same g6,tr1,⋯,⋯,O0,fun H8 q1 g8 hq1 h8=>?_⟩;refine Wv (g8 _ _ h6) h8 (qQ (by rw [Ab,Ab];omega)) fun q2 hq2=>?_
  refine hn _ _ ⟨q2,_,rfl,(g6.trans g8).free hq2,(g6.trans g8).trans (qe hq2 _),?_⟩;rw [upd_same,ee,← An]
 ·obtain ⟨pu,o6,rfl,hpu,g6,h6⟩:=h;rw [Bp] at h6;obtain ⟨an,wn,rfl,hqn,rsn⟩:=r1.tup_inv;have en:=WO rsn hn1;have hq6:=g6.sqT hq;refine ⟨_,rfl,ixT hq6 (qk (j:=1) rfl) ⟨an,wn,rfl,.inr (g6.sqT hqn),fun l1 hl1=>?_⟩⟩;have g7:=g6.trans (qe hl1 (.lst wn));have h7:upd H6 l1 (.lst wn) l1=some (.lst wn):=upd_same;have h67:=qe hl1 (.lst wn);generalize upd H6 l1 (.lst wn)=H7 at g7 h7 h67 ⊢;refine ⟨_,rfl,ixT (g7.sqT hq) (qk (j:=2) rfl) ⟨_,xs,s5,t5,rfl,.tup (g7.sqT hqb) (rsb.same g7),tl,hs5,⋯,fun H8 l2 g8 hl2 h8=>?_⟩⟩;refine Wv (g8 _ _ h7) h8 (qQ (by rw [en];simp only [Ac,Ab,At,Aj,Bj,A4];omega)) fun l3 hl3=>?_
  have g9:=g8.trans (qe hl3 (.lst (wn++(Tre.brL xs).map V.str)));have h9:upd H8 l3 (.lst (wn++(Tre.brL xs).map V.str)) l3=some (.lst (wn++(Tre.brL xs).map V.str)):=upd_same;generalize upd H8 l3 (.lst (wn++(Tre.brL xs).map V.str))=H9 at g9 h9 ⊢;refine ⟨_,rfl,qQ (by simp only [Ac,Ab,At,Aj,Bj,A4];omega),fun p4 hp4=>?_⟩
  have ga:=qe hp4 (.tup [.str "main",.ref l3,.ref pu,.non]);have ha:upd H9 p4 (.tup [.str "main",.ref l3,.ref pu,.non]) p4=some (.tup [.str "main",.ref l3,.ref pu,.non]):=upd_same;generalize upd H9 p4 (.tup [.str "main",.ref l3,.ref pu,.non])=Ha at ga ha ⊢;refine ⟨qQ (by simp only [Ac,Ab,At,Aj,Bj,A4];omega),fun pf hpf=>?_⟩
  have gb:=qe hpf (.lst [.ref p4]);have hpb:upd Ha pf (.lst [.ref p4]) pf=some (.lst [.ref p4]):=upd_same;generalize upd Ha pf (.lst [.ref p4])=Hb at gb hpb ⊢;have g4a:=((g7.trans g9).trans ga);have g4b:=g4a.trans gb;have row:zw Hb [.ref p4] (Tre.jX [.tuple [.str "main",.tuple ns,.tuple xs,.none]]):=by
   refine .cons ⟨p4,l3,pu,"main",rfl,gb _ _ ha,?_,(((h67.trans g9).trans ga).trans gb) _ _ h6⟩ .nil;rw [gb _ _ (ga _ _ h9),en,← An];rfl
  have fnm:Tre.Fn (.tuple [.str "main",.tuple ns,.tuple xs,.none]):=Tre.qa8 (o:= .none) tr hfn ⋯ ⟨rfl,rfl,Bm _⟩;have am:Tre.Acc [.tuple [.str "main",.tuple ns,.tuple xs,.none]]:=⟨fun e he=>by
   cases Az.mp he;exact fnm,fun e he=>by cases he⟩
  refine ⟨_,rfl,_,rfl,.ref a2,_,_,_,s,t,0,pf,_,_,rfl,hk.same g4b,pt,ht,O0,hs,hpb,row,am,by simp,by rw [At];omega,fun Hc zs' bc hzc rzc=>?_⟩
  refine ⟨_,rfl,q Hc pf zs' (fun b o hb=>bc b o (qx hb (g4a.free hpf)) (g4b _ _ hb)) hzc ?_⟩;rw [ev];exact rzc
theorem W9 {H:Hp}:∀ {zs:List V} {rs:List Tre.Row},zw H zs rs→∀ {i:Nat} {r:Tre.Row},rs[i]?=some r→∃ v,zs[i]?=some v∧RowAt H v r
 | _,_,.nil,i,r,h=>by simp at h
 | _,_,.cons a b,0,r,h=>by
  cases h;exact ⟨_,rfl,a⟩
 | _,_,.cons a b,i+1,r,h=>by
  rw [Da] at h;obtain ⟨v,e,q⟩:=W9 b h;exact ⟨v,by rw [Da];exact e,q⟩
inductive spHold (K:Frag) (vs:List V) (H:Hp) (Q:VK) (E':XK):Prop
 | mk:∀ (pr:Addr) (i:Nat) (nm:Str) (zs:List V) (rs:List Tre.Row),(vs=[.ref pr,.int (i:Nat),.str nm])→(H pr=some (.lst zs))→(zw H zs rs)→(Tre.Qw rs)→(i<rs.length)→(Q (oV (Tre.zP rs i nm)) H)→spHold K vs H Q E'
inductive Iv_NamL_1 (H:Hp) (pr:Addr) (i:Nat) (nm:Str) (rs:List Tre.Row) (m:Nat) (σ:St) (H':Hp):Prop
 | mk:(H'=H)→(((∃ j:Nat,m=j+1∧j<rs.length∧σ=[some (.ref pr),some (.int (j:Nat)),some (.str nm)]∧Tre.zP rs j nm=Tre.zP rs i nm)∨(σ=[some (.ref pr),some .non,some (.str nm)]∧Tre.zP rs i nm=none)))→Iv_NamL_1 H pr i nm rs m σ H'
def yV (K:Frag):TS:=qX (tOp (rIx K) (tOp (rIx K) (qg 0) (qg 1)) (tC (V.int 3))) (qv 1)
theorem Yf (F:Fun K "_law_holder" "_law_holder" J1 f fd) (c:Cs K mg ad):FnOk P w K mg base CX0 1 f fd ["_law_rows","_law_number_here","_law_name"] (spHold K):=by
 refine F.ok Vc (fun vs H Q E h=>?_) (fun cdv A outer s H vs Q E hr h=>?_)
 ·obtain ⟨pr,i,nm,zs,rs,rfl,_⟩:=h;rfl
 obtain ⟨pr,i,nm,zs,rs,rfl,hpr,rz,bk,hi,q⟩:=h;refine ⟨_,(qf (Jr Bt (PW.pt (J4 (qt qav (pv 1) J6 (qD _)) (JB (qt (ZP (K:=K) rfl) (pv 2) (pix K (pix K (pv 0) (pv 1)) qh) rfl)))) (qi (pst 1 Vc.nd (pix K (pix K (pv 0) (pv 1)) qh))))
   (qi (qy (pv 1)))),?_⟩
 show qG (Vi (VP (qI (tOp (fun x y H Q=>y=V.non∧Q (V.bl !decide (x=V.non)) H) (qg 1) (tC V.non))) (qI (tOp (rIn K true) (qg 2) (tOp (rIx K) (tOp (rIx K) (qg 0) (qg 1)) (tC (V.int 1)))))) (yV K)) (jb (qg 1)) _ _ _;refine ⟨(Iv_NamL_1 H pr i nm rs),⟨i+1,rfl,.inl ⟨i,rfl,hi,rfl,rfl⟩⟩,?_⟩;rintro m σ H' ⟨rfl,⟨j,rfl,hj,rfl,hh⟩ | ⟨rfl,hn⟩⟩
 ·have hr':rs[j]?=some rs[j]:=Aq hj;obtain ⟨v,hv,qa,na,ua,h,rfl,hqa,hna,hua⟩:=W9 rz hr';have step:=Tre.wu bk (x:=nm) hr';refine ⟨_,rfl,rfl,_,rfl,qZ rfl ?_⟩;refine ⟨_,rfl,_,rfl,_,rfl,ixL (SqL.of hpr) (qk (j:=j) hv) (ixT (SqT.of hqa) (qk (j:=1) rfl) (inS (.inl (SqL.of hna)) rfl (XQ _) ⟨_,rfl,?_⟩))⟩;rw [if_pos rfl,yw]
  by_cases hc:rs[j].names.contains nm=true
  ·rw [hc];refine qR rfl ⟨_,rfl,?_⟩;rw [if_pos hc] at step;rw [← hh,step] at q;exact q
  ·rw [Bo.mpr hc];rw [if_neg hc] at step;refine qZ rfl ⟨fun σ' H'=>∃ m',m'<j+1∧_,fun σ' H' h=>h,?_⟩;refine ⟨_,rfl,_,rfl,ixL (SqL.of hpr) (qk (j:=j) hv) (ixT (SqT.of hqa) (qk (j:=3) rfl) ?_)⟩;cases eo:rs[j].outer with
   | none=>
    rw [eo] at step;exact ⟨0,Nat.succ_pos _,rfl,.inr ⟨rfl,hh.symm.trans step⟩⟩
   | some k=>
    rw [eo] at step;have hk:=bk j _ hr' k eo;exact ⟨k+1,⋯,rfl,.inl ⟨k,rfl,⋯,rfl,step.symm.trans hh⟩⟩
 ·refine ⟨_,rfl,rfl,_,rfl,qR rfl ?_⟩;refine qR rfl ⟨_,rfl,?_⟩;rw [hn] at q;exact q
def wV:Option Str→V
 | none=> .non
 | some y=> .str y
theorem qlb (xs:List V) (k:Nat):v7 xs none (some (k:Int))=xs.take k:=by
 unfold v7;rw [HT.sIx_nat,HT.sIx_none,List.drop_zero,Nat.sub_zero]
 by_cases h:k≤xs.length
 ·rw [Nat.min_eq_left h]
 ·rw [Nat.min_eq_right ⋯,Bp,Dc ⋯]
def qdw (l:List Str):PyData:= .list (l.map PyData.str)
theorem YL {H:Hp}:∀ l:List Str,Reps K H (l.map V.str) (l.map PyData.str)
 | []=> .nil
 | x::r=> .cons (.str x) (YL r)
theorem qha {n:Nat} {xs:List PyData} (h:∀ x∈xs,Tre.Gd n x):(PyData.list xs).canLay0=true∧(PyData.list xs).depth≤n+1:=by
 obtain ⟨h1,h2,h3⟩:=Tre.wv h;exact ⟨by rw [PyData.canLay0];exact h2,by rw [PyData.depth];exact Cd h3⟩
theorem ZS {n:Nat} {xs:List PyData} (h:∀ x∈xs,Tre.Gd n x) (hn:n<64):SeqAt.shaped (.list xs)=true:=by
 obtain ⟨a,b⟩:=qha h;unfold SeqAt.shaped;rw [a,Ak ⋯];rfl
theorem Zo {l:List Str} (h:∀ x∈l,PyData.strOk x=true):SeqAt.shaped (qdw l)=true:=
 ZS (n:=0) (fun e he=>by
  obtain ⟨x,hx,rfl⟩:=By.mp he;exact Tre.vC (h x hx)) O0
theorem vL:∀ (l seen:List Str) (x:Str),x∈Tre.zp seen l→x∈l
 | [],seen,x,h=>by rw [Tre.zp] at h;cases h
 | y::r,seen,x,h=>by
  rw [Tre.zp] at h;split at h
  ·rcases Ap.mp h with rfl | h
   ·exact Au
   ·exact Am _ (vL r _ x h)
  ·exact Am _ (vL r _ x h)
theorem vM:∀ (l seen:List Str),(Tre.zp seen l).length≤l.length
 | [],seen=>by rw [Tre.zp];exact Ah _
 | y::r,seen=>by
  rw [Tre.zp];split
  ·exact Cd (vM r _)
  ·exact Dm (vM r _)
theorem qck (rs:List Tre.Row) (i:Nat) (x:Str) (l:List Str):Tre.lost rs i (l++[x])=Tre.lost rs i l++(if (Tre.zP rs i x).isNone=true then [x] else []):=by
 unfold Tre.lost;rw [List.filter_append,List.filter_cons];rfl
inductive spWrong (K:Frag) (vs:List V) (H:Hp) (Q:VK) (E':XK):Prop
 | mk:∀ (pr:Addr) (zs:List V) (rs:List Tre.Row) (L:List Str),(vs=[.ref pr])→(H pr=some (.lst zs))→(zw H zs rs)→(RowsOk L rs)→(∀ H',qw H H'→Q (wV (Tre.vg rs)) H')→spWrong K vs H Q E'
inductive Iv_NamM_0 (H:Hp) (pr:Addr) (rs:List Tre.Row) (j:Nat) (σ:St) (H':Hp):Prop
 | mk:∀ o1 o2 o3 o4,(σ=[some (.ref pr),o1,o2,o3,o4])→(qw H H')→(Tre.zf rs j (rs.drop j)=Tre.vg rs)→Iv_NamM_0 H pr rs j σ H'
def VG (K:Frag):TS:=jb (tOp (rIx K) (tOp zW (qg 3) (qg 4)) (tC (V.int 0)))
def VF (K:Frag):TS:=zz (qI (tOp (qgf K) (tOp zW (qg 3) (qg 4)) (Jv qo))) (VG K) zg
def VE (K:Frag):TS:=qG (qX (vm (v3 K (tOp (rIx K) (tOp (rIx K) (qg 0) (qg 1)) (tC (V.int 2)))) [none,some 0,some 1] (qv 0) (qI (tOp (fun x y H Q=>y=V.non∧Q (V.bl (decide (x=V.non))) H) (qE (spHold K) [] E0 (qd (qg 1) (qd (qg 2) (qd (qg 0) qo)))) (tC V.non))) (qg 0)) (qv 4)) (VF K)
def VD (K:Frag):TS:=qG (qX (vm (Z0 (qd (tCB (fun xs H Q=>∃ x n,xs=[x]∧v9 K x H n∧Q (V.int ↑n) H) (qd (qg 2) qo)) qo)) [none,some 2] (qv 0) (qI (tOp (rIn K false) (tOp (rIx K) (qg 1) (qg 0)) (tSl (QI K) (qg 1) VN (W0 (qg 0))))) (tOp (rIx K) (qg 1) (qg 0))) (qv 3)) (VE K)
def VC (K:Frag):TS:=qG (qX (tOp (rIx K) (tOp (rIx K) (qg 0) (qg 1)) (tC (V.int 1))) (qv 2)) (VD K)
theorem VW (F:Fun K "_law_wrong_name" "_law_wrong_name" zM f fd) (c:Cs K mg ad) (d_law_holder:Def P w K mg base 1 "_law_holder" ["_law_rows","_law_number_here","_law_name"] (spHold K)):FnOk P w K mg base CX0 2 f fd ["_law_rows"] (spWrong K):=by
 refine F.ok zD (fun vs H Q E h=>?_) (fun cdv A outer s H vs Q E hr h=>?_)
 ·obtain ⟨pr,zs,rs,L,rfl,_⟩:=h;rfl
 obtain ⟨pr,zs,rs,L,rfl,hpr,rz,R,q⟩:=h;have hu64:=hr.units;refine ⟨_,(qf (jf Bt rfl (jj rfl c.range_ (qb (qz (jw (K:=K) rfl) (by rfl) c.len_ zJ (qb (pv 0) qc)) qc)) (pgn 1 zD.nd) (qf (pst 2 zD.nd (pix K (pix K (pv 0) (pv 1)) qh))
   (qf (WN (i:=3) zD.nd rfl (by first | exact Or.inl rfl | exact Or.inr rfl) (sc:=qj zM) (NX:=["_law_rows","_law_number_here","_law_names_here","_law_twice","_law_lost"]) (N:=["_law_k","_law_names_here"]) (js:=[none,some 2]) (jj rfl c.range_ (qb (qz (jw (K:=K) rfl) (by rfl) c.len_ zJ (qb (pv 2) qc)) qc)) (fun _ _ _ _ _=>(zn (i:=0) (show (["_law_k","_law_names_here"]:List Str).Nodup from ∅) rfl (Or.inl rfl))) (fun _ _ _ _ _=>(QK (qt (yx (K:=K) rfl) (pix K (pv 1) (pv 0)) (jY (Zr (K:=K) rfl) (pv 1) J5 (Jg (pv 0))) rfl))) (fun _ _ _ _ _=>(pix K (pv 1) (pv 0))) (zF rfl) ⟨∅,rfl,∅,∅,rfl,∅⟩)
   (qf (WN (i:=4) zD.nd rfl (by first | exact Or.inl rfl | exact Or.inr rfl) (sc:=qj zM) (NX:=["_law_rows","_law_number_here","_law_names_here","_law_twice","_law_lost"]) (N:=["_law_name","_law_rows","_law_number_here"]) (js:=[none,some 0,some 1]) (JP (K:=K) rfl (pix K (pix K (pv 0) (pv 1)) qh)) (fun _ _ _ _ _=>(zn (i:=0) (show (["_law_name","_law_rows","_law_number_here"]:List Str).Nodup from ∅) rfl (Or.inl rfl))) (fun _ _ _ _ _=>(QK (qt QM (pdf d_law_holder (qb (pv 1) (qb (pv 2) (qb (pv 0) qc)))) J6 (qD _)))) (fun _ _ _ _ _=>(pv 0)) (zF rfl) ⟨∅,rfl,∅,∅,rfl,∅⟩)
   (qi (qN (qt (qhy (K:=K) rfl hu64) (qu zb (pv 3) (pv 4)) (zj qc) (qD _)) (qi (qy (pix K (qu zb (pv 3) (pv 4)) qh))) qB))))))
   (qi (qy J6))),?_⟩
 show qG (Vj (Z0 (qd (tCB (fun xs H Q=>∃ x n,xs=[x]∧v9 K x H n∧Q (V.int ↑n) H) (qd (qg 0) qo)) qo)) (qv 1) (VC K)) (jb (tC V.non)) _ _ _;clear hu64;have len300:=R.len;have zl:=Ce rz;refine ⟨_,rfl,_,_,rfl,.inl ⟨_,SqL.of hpr,rfl⟩,_,rfl,⋯,⋯,?_⟩;refine JM rs.length (Iv_NamM_0 H pr rs) ⟨none,none,none,none,rfl,qw.refl _,rfl⟩ (fun j σ H2 hj h=>?_) (fun σ H2 h=>?_)
 ·obtain ⟨o1,o2,o3,o4,rfl,g2,hw⟩:=h;refine ⟨show j<(zs.length:Int).toNat by rw [zl];exact hj,fun v H3 yl D' hn hr'=>?_⟩
  obtain ⟨rfl,ev⟩:=yl;rw [E9] at ev;subst ev;obtain ⟨r,hrj⟩:=va (l:=rs) (i:=j) hj;rw [yM hrj,Tre.zf] at hw;have ok:=R.ok _ (A9 hrj);have rz2:=rz.same g2;have hpr2:=g2 _ _ hpr;obtain ⟨v,hv,qa,na,ua,hh,rfl,hqa,hna,hua⟩:=W9 rz2 hrj;have nn:=ok.nn;have un:=ok.un;refine ⟨_,rfl,_,rfl,ixL (SqL.of hpr2) (qk (j:=j) hv) (ixT (SqT.of hqa) (qk (j:=1) rfl) ?_)⟩;refine ⟨_,rfl,_,_,rfl,.inl ⟨_,SqL.of hna,rfl⟩,_,rfl,⋯,by rw [Ab];omega,?_⟩
  refine zG r.names.length (fun i ys H'=>qw H3 H'∧ys=(Tre.zp [] (r.names.take i)).map V.str) ⟨qw.refl _,rfl⟩ (fun i ys H' h=>?_) (qQ ⋯) (fun i ys H4 hi h=>?_) (fun ys H4 h=>?_)
  ·rw [h.2,Ab];exact Av (vM _ _) (Bv _ _)
  ·obtain ⟨g4,rfl⟩:=h;refine ⟨show i<((r.names.map V.str).length:Int).toNat by rw [Ab];exact hi,fun v H5 yl=>?_⟩
   obtain ⟨rfl,ev⟩:=yl;rw [E9] at ev;subst ev;obtain ⟨x,ei⟩:=va (l:=r.names) (i:=i) hi;have hxi:(r.names.map V.str)[i]?=some (.str x):=by rw [A0,ei];rfl
   have hna4:=g4 _ _ hna;have htk:r.names.take (i+1)=r.names.take i++[x]:=by rw [Bb,ei];rfl
   refine ⟨_,rfl,_,rfl,ixL (SqL.of hna4) (qk (j:=i) hxi) ⟨_,rfl,_,rfl,_,rfl,.inl ⟨na,_,rfl,SqL.of hna4,fun p hp=>?_⟩⟩⟩;rw [qlb,← E6];have g5:=qe hp (.lst ((r.names.take i).map V.str));refine (inS (.inl (SqL.of upd_same)) rfl (XQ _) ⟨_,rfl,?_⟩);rw [yw,if_neg Ag];generalize upd H5 p (.lst ((r.names.take i).map V.str))=H6 at g5 ⊢;have ts:=Tre.WY x (r.names.take i) [];rw [Bw,← htk] at ts
   by_cases hc:(r.names.take i).contains x=true
   ·rw [if_pos hc] at ts;refine qZ hc ⟨_,rfl,_,rfl,ixL (SqL.of (g5 _ _ hna4)) (qk (j:=i) hxi) ⟨g4.trans g5,?_⟩⟩;rw [ts,An];rfl
   ·rw [if_neg hc,A6] at ts;exact qR (Bo.mpr hc) ⟨g4.trans g5,by rw [ts]⟩
  obtain ⟨g4,rfl⟩:=h;rw [Bp];refine ⟨show ((r.names.map V.str).length:Int).toNat≤r.names.length by rw [Ab];exact Ah _,fun pt hpt=>?_⟩
  have g5:=g4.trans (qe hpt (.lst ((Tre.zp [] r.names).map V.str)));have h5:upd H4 pt (.lst ((Tre.zp [] r.names).map V.str)) pt=some (.lst ((Tre.zp [] r.names).map V.str)):=upd_same;dsimp only;generalize upd H4 pt (.lst ((Tre.zp [] r.names).map V.str))=H5 at g5 h5 ⊢;refine ⟨_,rfl,_,rfl,ixL (SqL.of (g5 _ _ hpr2)) (qk (j:=j) hv) (ixT (SqT.of (g5 _ _ hqa)) (qk (j:=2) rfl) (.inl ⟨ua,rfl,⟨_,SqL.of (g5 _ _ hua)⟩,?_⟩))⟩;refine zG r.used.length (fun i ys H'=>qw H5 H'∧ys=(Tre.lost rs j (r.used.take i)).map V.str) ⟨qw.refl _,rfl⟩ (fun i ys H' h=>?_) (qQ ⋯) (fun i ys H6 hi h=>?_) (fun ys H6 h=>?_)
  ·rw [h.2,Ab];exact Av (List.length_filter_le _ _) (Bv _ _)
  ·obtain ⟨g6,rfl⟩:=h;obtain ⟨x,ei⟩:=va (l:=r.used) (i:=i) hi;have hxi:(r.used.map V.str)[i]?=some (.str x):=by rw [A0,ei];rfl
   have g36:=g5.trans g6;refine ⟨⟨_,_,SqL.of (g36 _ _ hua),hxi⟩,fun v H7 yl=>?_⟩;obtain ⟨rfl,hv7⟩:=yl;have ev:=hxi.symm.trans (hv7 _ (SqL.of (g36 _ _ hua)));cases ev;have htk:r.used.take (i+1)=r.used.take i++[x]:=by rw [Bb,ei];rfl
   refine ⟨_,rfl,_,rfl,_,rfl,pr,j,x,zs,rs,rfl,g36 _ _ hpr2,rz2.same g36,R.bk,hj,rfl,_,rfl,?_⟩;have ls:=qck rs j x (r.used.take i);rw [← htk] at ls;cases eh:Tre.zP rs j x with
   | none=>
    rw [eh] at ls;refine qZ rfl ⟨_,rfl,g6,?_⟩;rw [ls,An];rfl
   | some k=>
    rw [eh] at ls;refine qR rfl ⟨g6,?_⟩;rw [ls];simp
  obtain ⟨g6,rfl⟩:=h;rw [Bp];have g36:=g5.trans g6;refine ⟨⟨_,SqL.of (g36 _ _ hua),by rw [Ab];exact Ah _⟩,fun pl hpl=>?_⟩
  have g7:=g6.trans (qe hpl (.lst ((Tre.lost rs j r.used).map V.str)));have h7:upd H6 pl (.lst ((Tre.lost rs j r.used).map V.str)) pl=some (.lst ((Tre.lost rs j r.used).map V.str)):=upd_same;dsimp only;generalize upd H6 pl (.lst ((Tre.lost rs j r.used).map V.str))=H7 at g7 h7 ⊢;have h57:=g7 _ _ h5;have l1:=vM r.names [];have l2:(Tre.lost rs j r.used).length≤r.used.length:=List.length_filter_le _ _;have okl:∀ x∈Tre.zp [] r.names++Tre.lost rs j r.used,PyData.strOk x=true:=fun x hx=>by
   rcases Bl.mp hx with hx | hx
   ·exact (ok.nl x (vL _ _ x hx)).2.2
   ·exact (ok.ul x (Ev.mp hx).1).2.2
  have gA:=(g2.trans g5).trans g7;refine ⟨_,rfl,_,rfl,Wv h57 h7 (qQ (by simp only [Ac,Ab,At,Aj,Bj,A4];omega)) fun pc hpc=>?_⟩
  rw [← An];have g8:=qe hpc (.lst ((Tre.zp [] r.names++Tre.lost rs j r.used).map V.str));have h8:upd H7 pc (.lst ((Tre.zp [] r.names++Tre.lost rs j r.used).map V.str)) pc=some (.lst ((Tre.zp [] r.names++Tre.lost rs j r.used).map V.str)):=upd_same;generalize upd H7 pc (.lst ((Tre.zp [] r.names++Tre.lost rs j r.used).map V.str))=H8 at g8 h8 ⊢;refine ⟨qQ O0,fun pe hpe=>?_⟩;have g9:=qe hpe (.lst []);refine ⟨qdw (Tre.zp [] r.names++Tre.lost rs j r.used),.list [],.lst (SqL.of (g9 _ _ h8)) (YL _),.lst (SqL.of upd_same) .nil,Zo okl,O0,_,rfl,?_⟩;generalize upd H8 pe (.lst [])=H9 at g9 ⊢;have eb:Tre.bad rs j r=Tre.zp [] r.names++Tre.lost rs j r.used:=rfl;cases hb:Tre.bad rs j r with
  | nil=>
   rw [hb] at hw eb;rw [← eb];exact qR O0 (hn _ _ ⟨_,_,_,_,rfl,(gA.trans g8).trans g9,hw⟩)
  | cons y l=>
   rw [hb] at hw eb;rw [← eb];have g79:=g8.trans g9;refine qZ (show (!PyData.eqv (qdw (y::l)) (.list []))=true by rfl) ?_
   refine ⟨_,rfl,_,rfl,Wv (g79 _ _ h57) (g79 _ _ h7) (qQ (by simp only [Ac,Ab,At,Aj,Bj,A4];omega)) fun pd hpd=>?_⟩
   rw [← An,← eb];refine ixL (SqL.of upd_same) (qk (j:=0) rfl) ?_;have:=q _ ((gA.trans g79).trans (qe hpd (.lst ((y::l).map V.str))));rw [← hw] at this;exact hr' _ _ this
 obtain ⟨o1,o2,o3,o4,rfl,g2,hw⟩:=h;rw [List.drop_length,Tre.zf] at hw;refine ⟨show (zs.length:Int).toNat≤rs.length by rw [zl];exact Ah _,?_⟩
 have:=q _ g2;rw [← hw] at this;exact this
def Zy (o:Option Str) (n:Nat):PyData:=match o with
 | none=> .tuple [.str "told",.int (n:Nat)]
 | some y=> .tuple [.str "name",.str y]
theorem qga {o:Option Str} {n:Nat} (h:∀ y,o=some y→PyData.strOk y=true):Tre.Gd 1 (Zy o n):=by
 cases o with
 | none=>
  refine Tre.VA fun x hx=>?_;simp only [Ap,Bg,or_false] at hx;rcases hx with rfl | rfl
  ·exact Tre.vC ∅
  ·exact Tre.XO
 | some y=>
  refine Tre.VA fun x hx=>?_;simp only [Ap,Bg,or_false] at hx;rcases hx with rfl | rfl
  ·exact Tre.vC ∅
  ·exact Tre.vC (h y rfl)
theorem Zf {L:List Str} {rs:List Tre.Row} (R:RowsOk L rs):∀ (l:List Tre.Row) (i:Nat),(∀ r∈l,r∈rs)→∀ y,Tre.zf rs i l=some y→PyData.strOk y=true
 | [],i,_,y,h=>by rw [Tre.zf] at h;cases h
 | r::q,i,hl,y,h=>by
  rw [Tre.zf] at h;cases hb:Tre.bad rs i r with
  | nil=>
   rw [hb] at h;exact Zf R q (i+1) (fun r hr=>hl r (Am _ hr)) y h
  | cons x z=>
   rw [hb] at h;cases h;have hx:y∈Tre.bad rs i r:=by rw [hb];exact Au
   have ok:=R.ok r (hl r Au);rcases Bl.mp hx with hx | hx
   ·exact (ok.nl y (vL _ _ y hx)).2.2
   ·exact (ok.ul y (Ev.mp hx).1).2.2
inductive spSaid (K:Frag) (vs:List V) (H:Hp) (Q:VK) (E':XK):Prop
 | mk:∀ x d s t names,(vs=[x])→(Rep K H x d)→(names.length=8)→(Tre.Ft names d)→(Tre.Pt d "program" false s t)→(s≤300)→(t≤20)→(∀ H' v,qw H H'→Rep K H' v (Zy (Tre.vg (Tre.jX (Tre.funs d))) (Tre.funs d).length)→Q v H')→spSaid K vs H Q E'
theorem ZJ (F:Fun K "_law_said" "_law_said" Vo f fd) (c:Cs K mg ad) (d_scopes_of:DefY P w K mg base 31 "scopes_of" ["program"] (spScs K ad)):FnOk P w K mg base CX0 32 f fd ["_law_program_here"] (spSaid K):=by
 refine F.ok vn (fun vs H Q E h=>?_) (fun cdv A outer s H vs Q E hr h=>?_)
 ·obtain ⟨x,d,s,t,names,rfl,_⟩:=h;rfl
 obtain ⟨x,d,s,t,names,rfl,hk,hnl,hf,hp,hs,ht,q⟩:=h;refine ⟨_,(qi (qgo (i:=1) (K:=K) rfl (fun _ _=>(qi (qy (qO (qb qp (qb (qz (jw (K:=K) rfl) (by rfl) c.len_ zJ (qb (qat d_scopes_of (hr.mono (by first | decide | omega)) qkv (qb (pv 0) qc)) qc)) qc)))))) (fun _=>(qf (pst 2 vn.nd (qhx (qz (XF (K:=K) rfl) (by rfl) c.isinstance_ qJ (qb (pv 1) (qb (qO (qb (Vs c.v_BadTree) (qb (Vs c.v_BadText) (qb (Vs c.v_BadCount) qc)))) qc))) (Vr (qz (XF (K:=K) rfl) (by rfl) c.isinstance_ qJ (qb (pv 1) (qb (qO (qb (Vs c.v_BadCode) (qb (Vs c.v_NoThing) qc))) qc))))))
   (qf (qN (PW.pt (ve (zZ (pv 2)) (ve (jM (zZ (qz (XF (K:=K) rfl) (by rfl) c.isinstance_ qJ (qb (pv 1) (qb (Vs c.v_BadName) qc))))) (JK (jM (zZ (qz (XF (K:=K) rfl) (by rfl) c.isinstance_ qJ (qb (pv 1) (qb (JQ c.ValueError_ Yk) qc))))))))) (qi (qy (qO (qb qp (qb J6 qc))))) qB)
   (qi (qy (qO (qb qp (qb (qgs (K:=K) rfl c.xg_BadName (pv 1) rfl) qc)))))))) c.m_LoomError vn.nd rfl)),?_⟩
 refine ⟨_,rfl,x,d,s,t,names,rfl,hk,hnl,hf,hp,hs,ht,fun hw H1 p zs g1 hz hl=>?_,fun y hw H1 dx g1 hdx=>?_⟩
 ·rw [hw] at q;refine ⟨_,_,rfl,.inl ⟨_,SqL.of hz,rfl⟩,qQ (show 2≤2000 from O0),fun pt hpt=>q _ _ (g1.trans (qe hpt _)) ?_⟩;rw [hl];exact .tup (SqT.of upd_same) (.cons (.str _) (.cons (.int _) .nil))
 rw [hw] at q;refine ⟨ad.BadName,rfl,c.e1,fun ea hea=>?_⟩;have g2:=qe hea (yH ea ad.BadName (some dx));have h2:upd H1 ea (yH ea ad.BadName (some dx)) ea=some (yH ea ad.BadName (some dx)):=upd_same;have gH:=g1.trans g2;have hd2:=g2 _ _ hdx;generalize upd H1 ea (yH ea ad.BadName (some dx))=H2 at gH h2 hd2 ⊢;refine ⟨_,rfl,qQ (show 3≤2000 from O0),fun p1 hp1=>?_⟩;have g3:=qe hp1 (.tup [.ref ad.BadTree,.ref ad.BadText,.ref ad.BadCount]);refine ⟨ea,ad.BadName,some dx,_,false,rfl,g3 _ _ h2,c.k_BadName,.inr ⟨p1,_,_,rfl,upd_same,rfl,c.i1⟩,_,rfl,qR rfl ?_⟩;generalize upd H2 p1 (.tup [.ref ad.BadTree,.ref ad.BadText,.ref ad.BadCount])=H3 at g3 ⊢;refine ⟨_,rfl,qQ (show 2≤2000 from O0),fun p2 hp2=>?_⟩;have g4:=qe hp2 (.tup [.ref ad.BadCode,.ref ad.NoThing]);refine ⟨ea,ad.BadName,some dx,_,false,rfl,(g3.trans g4) _ _ h2,c.k_BadName,.inr ⟨p2,_,_,rfl,upd_same,rfl,c.i2⟩,?_⟩;have g34:=g3.trans g4;generalize upd H3 p2 (.tup [.ref ad.BadCode,.ref ad.NoThing])=H4 at g34 ⊢;have h4:=g34 _ _ h2;refine ⟨_,rfl,_,rfl,qR rfl ⟨_,rfl,ea,ad.BadName,some dx,_,true,rfl,h4,c.k_BadName,.inl ⟨_,rfl,c.i3⟩,_,rfl,qR rfl ?_⟩⟩;refine ⟨_,rfl,ea,ad.BadName,some dx,_,true,rfl,h4,c.k_BadName,.inl ⟨_,rfl,c.i4⟩,_,rfl,qR rfl ?_⟩;refine ⟨_,rfl,ea,dx,_,_,rfl,h4,g34 _ _ hd2,rfl,qQ (show 2≤2000 from O0),fun pt hpt=>q _ _ ((gH.trans g34).trans (qe hpt _)) ?_⟩;exact .tup (SqT.of upd_same) (.cons (.str _) (.cons (.str _) .nil))
inductive spLaw (K:Frag) (vs:List V) (H:Hp) (Q:VK) (E':XK):Prop
 | mk:∀ (a:Addr) (ns:List Int),(vs=[.ref a])→(SqL K H a (ns.map V.int))→(ns.length≤63)→(∀ H',Q (.bl true) H')→spLaw K vs H Q E'
theorem qi8 (F:Fun K "law" "law" Wb f fd) (c:Cs K mg ad) (d_law_cell_at:Def P w K mg base 1 "_law_cell_at" ["_law_script","_law_k"] (spCell K)) (d_law_program:Def P w K mg base 34 "_law_program" ["_law_script","_law_most"] (spProg K)) (d_law_all:Def P w K mg base 27 "_law_all" ["_law_program_here"] (spAll K)) (d_law_wrong_name:Def P w K mg base 2 "_law_wrong_name" ["_law_rows"] (spWrong K)) (d_law_said:Def P w K mg base 32 "_law_said" ["_law_program_here"] (spSaid K)):FnOkG P w K mg base CX0 35 f fd ["_law_script"] (spLaw K):=by
 refine F.okG Vl (fun vs H Q E h=>?_) (fun cdv A outer s H vs Q E hgd hr h=>?_)
 ·obtain ⟨a,ns,rfl,_⟩:=h;rfl
 obtain ⟨a,ns,rfl,hS,_,q⟩:=h;have hu80:(A.deeper (PyProof.Rows.envOfC "law" (qj Wb) s.heap.objs.size f cdv)).units+80<cLine:=by have:=hr.un;omega
 have hu64:=hr.units;refine ⟨_,(qf (pst 1 Vl.nd (pix K (zj (qb qh (qb qh (qb qh (qb qh qc))))) (qu zc (pdf d_law_cell_at (qb (pv 0) (qb qh qc))) qh)))
   (qf (pst 2 Vl.nd (pdf d_law_program (qb (pv 0) (qb (pv 1) qc))))
   (qf (pst 3 Vl.nd (zk (qht (K:=K) rfl hgd hu80) (by rfl) c.str_ wy (qb (pv 2) qc)))
   (qf (pst 4 Vl.nd (pdf d_law_all (qb (pv 2) qc)))
   (qf (pst 5 Vl.nd (pdf d_law_wrong_name (qb (pv 4) qc)))
   (qf (pst 6 Vl.nd (ZB (qt QM (pv 5) J6 (qD _)) (qO (qb qp (qb (qz (jw (K:=K) rfl) (by rfl) c.len_ zJ (qb (pv 4) qc)) qc))) (qO (qb qp (qb (pv 5) qc)))))
   (qi (qy (Vt (jF (qhz (K:=K) rfl hu64) (pdf d_law_said (qb (pv 2) qc)) (pv 6) (qD _)) (Vt (jF (qhz (K:=K) rfl hu64) (pdf d_law_said (qb (pv 2) qc)) (pv 6) (qD _)) (Vr (jF zy (zk (qht (K:=K) rfl hgd hu80) (by rfl) c.str_ wy (qb (pv 2) qc)) (pv 3) (qD _))))))))))))),?_⟩
 clear hu80 hu64;refine ⟨qQ O0,fun p0 hp0=>?_⟩;have g0:=qe hp0 (.lst [.int 1,.int 3,.int 8,.int 20]);have h0:upd H p0 (.lst [.int 1,.int 3,.int 8,.int 20]) p0=some (.lst [.int 1,.int 3,.int 8,.int 20]):=upd_same;generalize upd H p0 (.lst [.int 1,.int 3,.int 8,.int 20])=H0 at g0 h0 ⊢;refine ⟨_,rfl,a,ns,3,rfl,g0.seq hS,O0,fun i=>⟨i,4,rfl,rfl,(show (0:Int)<4 from O0),?_⟩⟩;obtain ⟨l0,hl1,hl2,hl3⟩:∃ l0:Int,[V.int 1,.int 3,.int 8,.int 20][(i % 4).toNat]?=some (.int l0)∧0≤l0∧l0≤40:=by
  have:(i % 4).toNat<4:=⋯
  match (i % 4).toNat,this with
  | 0,_=>exact ⟨1,rfl,O0,O0⟩
  | 1,_=>exact ⟨3,rfl,O0,O0⟩
  | 2,_=>exact ⟨8,rfl,O0,O0⟩
  | 3,_=>exact ⟨20,rfl,O0,O0⟩
 refine ixL (SqL.of h0) (by rw [show i % 4=(((i % 4).toNat:Nat):Int) from ⋯];exact qk hl1) ?_
 refine ⟨_,rfl,_,rfl,a,ns,l0,hl2,hl3,rfl,g0.seq hS,fun H1 x d s t names g1 r1 hnl hf p1 hs ht=>?_⟩;clear g0 h0 hS hl1;have tr:=p1.tr;have gd:=tr.gd;obtain ⟨able,size⟩:=tr.sz;have nod:=PyData.hasDict_of_canLay _ gd.lay;have dp:d.depth≤64:=Av gd.dep ⋯;have fits:d.shown.length≤sizeLine:=by
  have e:(10200*300:Nat)≤sizeLine:=O0;have:Tre.sz d=d.shown.length:=rfl;omega
 have R:=qap hnl hf p1 hs ⋯;obtain ⟨ap,ex⟩:∃ ap,x= .ref ap:=by
  obtain ⟨⟨_,_,rfl,_⟩,_⟩:=Tre.vX p1 ⋯;obtain ⟨ap,_,rfl,_⟩:=r1.tup_inv;exact ⟨ap,rfl⟩
 subst ex;refine ⟨_,rfl,ap,_,rfl,r1,able,nod,dp,fits,?_⟩;refine ⟨_,rfl,_,d,s,t,rfl,r1,p1,hs,ht,fun H2 pr zs g2 hz rz=>?_⟩;have zl:=Ce rz;rw [Ab] at zl;refine ⟨_,rfl,pr,zs,_,_,rfl,hz,rz,R,fun H3 g3=>?_⟩;have gdS:=qga (n:=(Tre.funs d).length) (Zf R _ 0 (fun r hr=>hr));have shp:=gdS.shaped O0;have eq1:PyData.eqv (Zy (Tre.zf (Tre.jX (Tre.funs d)) 0 (Tre.jX (Tre.funs d))) (Tre.funs d).length) (Zy (Tre.zf (Tre.jX (Tre.funs d)) 0 (Tre.jX (Tre.funs d))) (Tre.funs d).length)=true:=PySem.SeqAt.eqv_refl _ gdS.lay;have ew:Tre.zf (Tre.jX (Tre.funs d)) 0 (Tre.jX (Tre.funs d))=Tre.vg (Tre.jX (Tre.funs d)):=rfl;rw [ew] at eq1 shp;have rest:∀ (H4:Hp) (pd:Addr) (o5:Option V) (D:Ends) (ts:TS),qw H1 H4→Rep K H4 (.ref pd) (Zy (Tre.vg (Tre.jX (Tre.funs d))) (Tre.funs d).length)→D.rt=Q→jb (Zm (tOp (qgg K) (qE (spSaid K) [] E0 (qd (qg 2) qo)) (qg 6)) (Zm (tOp (qgg K) (qE (spSaid K) [] E0 (qd (qg 2) qo)) (qg 6)) (tOp rEq (tCB (fun xs H Q=>∃ a d,xs=[V.ref a]∧Rep K H (V.ref a) d∧d.showable=true∧d.hasDict=false∧d.depth≤64∧d.shown.length≤sizeLine∧Q (V.str d.shown) H) (qd (qg 2) qo)) (qg 3)))) D [some (.ref a),some (.int l0),some (.ref ap),some (.str d.shown),some (.ref pr),o5,some (.ref pd)] H4:=by
  intro H4 pd o5 D ts g4 rd hD;refine ⟨_,rfl,_,d,s,t,names,rfl,r1.same g4,hnl,hf,p1,hs,⋯,fun H5 v5 g5 rv5=>⟨_,rfl,_,_,rv5,rd.same g5,shp,shp,_,rfl,qZ eq1 ?_⟩⟩;have g45:=g4.trans g5;refine ⟨_,rfl,_,d,s,t,names,rfl,r1.same g45,hnl,hf,p1,hs,⋯,fun H6 v6 g6 rv6=>⟨_,rfl,_,_,rv6,rd.same (g5.trans g6),shp,shp,_,rfl,qZ eq1 ?_⟩⟩;refine ⟨_,rfl,ap,d,rfl,r1.same (g45.trans g6),able,nod,dp,fits,_,rfl,rfl,?_⟩;rw [hD,Ak rfl];exact q _
 have g13:=g2.trans g3;refine ⟨_,rfl,rfl,_,rfl,?_⟩;cases hw:Tre.vg (Tre.jX (Tre.funs d)) with
 | none=>
  rw [hw] at rest;refine qZ rfl ⟨_,rfl,_,_,rfl,.inl ⟨_,SqL.of (g3 _ _ hz),rfl⟩,qQ (show 2≤2000 from O0),fun pd hpd=>?_⟩;refine rest _ pd _ _ (fun _ _ _=>True) (g13.trans (qe hpd _)) ?_ rfl;rw [zl];exact .tup (SqT.of upd_same) (.cons (.str _) (.cons (.int _) .nil))
 | some y=>
  rw [hw] at rest;refine qR rfl ⟨_,rfl,qQ (show 2≤2000 from O0),fun pd hpd=>?_⟩;refine rest _ pd _ _ (fun _ _ _=>True) (g13.trans (qe hpd _)) ?_ rfl;exact .tup (SqT.of upd_same) (.cons (.str _) (.cons (.str _) .nil))
end
theorem qj0 {l:PySem.W.OpenLaw} {w:World} {K:Frag} {h:Heap} {mg:Str→Option Value} {fa f0 f1 f2 f3 f4 f5 f6 f7 f8 f9 f10 f11 f12 f13 f14 f15 f16 f17 f18 f19 f20 f21 f22 f23 f24 f25 f26 f27 f28 f29 f30 f31 f32 f33 f34 f35 f36 f37 f38:Addr} (X:K.In h) (G:h.Ns mainGlobals mg) (hfa:mg "law"=some (.ref fa))
  {cd_BadName:ClassData}
  {c_LoomError c_BadTree c_BadText c_BadName c_BadCount c_BadCode c_NoThing c_Scope:Addr}
  {a_SIGNS:Addr} {n_SIGNS:Nat} {k_SIGNS_0 k_SIGNS_1 k_SIGNS_2 k_SIGNS_3 k_SIGNS_4:Tok} {a_FORMS:Addr} {n_FORMS:Nat} {k_FORMS_0 k_FORMS_1 k_FORMS_2 k_FORMS_3 k_FORMS_4 k_FORMS_5 k_FORMS_6 k_FORMS_7 k_FORMS_8 k_FORMS_9 k_FORMS_10 k_FORMS_11 k_FORMS_12 k_FORMS_13 k_FORMS_14 k_FORMS_15 k_FORMS_16:Tok} {a_FORMS0:Addr} {n_FORMS0:Nat} {k_FORMS0_0 k_FORMS0_1:Tok} {a_FORMS1:Addr} {n_FORMS1:Nat} {k_FORMS1_0:Tok} {a_FORMS2:Addr} {n_FORMS2:Nat} {k_FORMS2_0:Tok} {a_FORMS3:Addr} {n_FORMS3:Nat} {k_FORMS3_0 k_FORMS3_1 k_FORMS3_2:Tok} {a_FORMS4:Addr} {n_FORMS4:Nat} {k_FORMS4_0 k_FORMS4_1:Tok} {a_FORMS5:Addr} {n_FORMS5:Nat} {k_FORMS5_0 k_FORMS5_1:Tok} {a_FORMS6:Addr} {n_FORMS6:Nat} {k_FORMS6_0 k_FORMS6_1:Tok} {a_FORMS7:Addr} {n_FORMS7:Nat} {k_FORMS7_0 k_FORMS7_1:Tok} {a_FORMS8:Addr} {n_FORMS8:Nat} {k_FORMS8_0 k_FORMS8_1:Tok} {a_FORMS9:Addr} {n_FORMS9:Nat} {k_FORMS9_0 k_FORMS9_1:Tok} {a_FORMS10:Addr} {n_FORMS10:Nat} {k_FORMS10_0:Tok} {a_FORMS11:Addr} {n_FORMS11:Nat} {k_FORMS11_0 k_FORMS11_1 k_FORMS11_2:Tok} {a_FORMS12:Addr} {n_FORMS12:Nat} {k_FORMS12_0 k_FORMS12_1:Tok} {a_FORMS13:Addr} {n_FORMS13:Nat} {k_FORMS13_0:Tok} {a_FORMS14:Addr} {n_FORMS14:Nat} {k_FORMS14_0:Tok} {a_FORMS15:Addr} {n_FORMS15:Nat} {k_FORMS15_0 k_FORMS15_1:Tok} {a_FORMS16:Addr} {n_FORMS16:Nat} {k_FORMS16_0 k_FORMS16_1 k_FORMS16_2 k_FORMS16_3 k_FORMS16_4:Tok} {a_HEADS:Addr} {n_HEADS:Nat} {k_HEADS_0 k_HEADS_1 k_HEADS_2:Tok} {a_HEADS0:Addr} {n_HEADS0:Nat} {k_HEADS0_0:Tok} {a_HEADS1:Addr} {n_HEADS1:Nat} {k_HEADS1_0 k_HEADS1_1 k_HEADS1_2 k_HEADS1_3 k_HEADS1_4 k_HEADS1_5 k_HEADS1_6:Tok} {a_HEADS2:Addr} {n_HEADS2:Nat} {k_HEADS2_0 k_HEADS2_1 k_HEADS2_2 k_HEADS2_3 k_HEADS2_4 k_HEADS2_5 k_HEADS2_6 k_HEADS2_7 k_HEADS2_8:Tok} {a_MEMBERS:Addr} {n_MEMBERS:Nat} {k_MEMBERS_0 k_MEMBERS_1 k_MEMBERS_2:Tok} {w_MEMBERS_0 w_MEMBERS_1 w_MEMBERS_2:Tok} {a_INNER_KINDS:Addr} {n_INNER_KINDS:Nat} {k_INNER_KINDS_0 k_INNER_KINDS_1:Tok}
  {t_MOST_LETTERS t_GREATEST_NUMBER t_MOST_NAMES t_MOST_TERMS t_MOST_STATEMENTS t_MOST_DEPTH t_MOST_PARTS:Tok}
  (a0:PySem.W.findIn K (.ref c_BadName) "__init__"=some (some (.ref f0))) (i0:PySem.W.isFn K (.ref f0)=true) (l0:FA K f0 "__init__" "BadName.__init__" W7)
  (a1:PySem.W.nsIn K mainGlobals "is_name"=some (some (.ref f1))) (l1:FA K f1 "is_name" "is_name" vO)
  (a2:PySem.W.nsIn K mainGlobals "is_number"=some (some (.ref f2))) (l2:FA K f2 "is_number" "is_number" vt)
  (a3:PySem.W.nsIn K mainGlobals "is_row"=some (some (.ref f3))) (l3:FA K f3 "is_row" "is_row" W5)
  (a4:PySem.W.nsIn K mainGlobals "are_names"=some (some (.ref f4))) (l4:FA K f4 "are_names" "are_names" JA)
  (a5:PySem.W.nsIn K mainGlobals "has_shape"=some (some (.ref f5))) (l5:FA K f5 "has_shape" "has_shape" vw)
  (a6:PySem.W.nsIn K mainGlobals "has_form"=some (some (.ref f6))) (l6:FA K f6 "has_form" "has_form" J3)
  (a7:PySem.W.nsIn K mainGlobals "inner_with_shapes"=some (some (.ref f7))) (l7:FA K f7 "inner_with_shapes" "inner_with_shapes" zK)
  (a8:PySem.W.nsIn K mainGlobals "hands_within"=some (some (.ref f8))) (l8:FA K f8 "hands_within" "hands_within" Jq)
  (a9:PySem.W.nsIn K mainGlobals "is_program"=some (some (.ref f9))) (l9:FA K f9 "is_program" "is_program" Je)
  (a10:PySem.W.nsIn K mainGlobals "need_program"=some (some (.ref f10))) (l10:FA K f10 "need_program" "need_program" Jn)
  (a11:PySem.W.nsIn K mainGlobals "inner_of"=some (some (.ref f11))) (l11:FA K f11 "inner_of" "inner_of" J2)
  (a12:PySem.W.nsIn K mainGlobals "functions_of"=some (some (.ref f12))) (l12:FA K f12 "functions_of" "functions_of" jD)
  (a13:PySem.W.nsIn K mainGlobals "brought_by"=some (some (.ref f13))) (l13:FA K f13 "brought_by" "brought_by" Jf)
  (a14:PySem.W.nsIn K mainGlobals "names_of"=some (some (.ref f14))) (l14:FA K f14 "names_of" "names_of" Vn)
  (a15:PySem.W.nsIn K mainGlobals "used_in"=some (some (.ref f15))) (l15:FA K f15 "used_in" "used_in" we)
  (a16:PySem.W.findIn K (.ref c_Scope) "__init__"=some (some (.ref f16))) (i16:PySem.W.isFn K (.ref f16)=true) (l16:FA K f16 "__init__" "Scope.__init__" W6)
  (a17:PySem.W.findIn K (.ref c_Scope) "shown_scope"=some (some (.ref f17))) (i17:PySem.W.isFn K (.ref f17)=true) (l17:FA K f17 "shown_scope" "Scope.shown_scope" j6)
  (a18:PySem.W.nsIn K mainGlobals "owner_of"=some (some (.ref f18))) (l18:FA K f18 "owner_of" "owner_of" Vm)
  (a19:PySem.W.nsIn K mainGlobals "refuse_names"=some (some (.ref f19))) (l19:FA K f19 "refuse_names" "refuse_names" Jm)
  (a20:PySem.W.nsIn K mainGlobals "take_name"=some (some (.ref f20))) (l20:FA K f20 "take_name" "take_name" vq)
  (a21:PySem.W.nsIn K mainGlobals "scopes_of"=some (some (.ref f21))) (l21:FA K f21 "scopes_of" "scopes_of" jV)
  (a22:PySem.W.nsIn K mainGlobals "_law_cell_at"=some (some (.ref f22))) (l22:FA K f22 "_law_cell_at" "_law_cell_at" JI)
  (a23:PySem.W.nsIn K mainGlobals "_law_next"=some (some (.ref f23))) (l23:FA K f23 "_law_next" "_law_next" Vp)
  (a24:PySem.W.nsIn K mainGlobals "_law_names"=some (some (.ref f24))) (l24:FA K f24 "_law_names" "_law_names" jW)
  (a25:PySem.W.nsIn K mainGlobals "_law_number"=some (some (.ref f25))) (l25:FA K f25 "_law_number" "_law_number" J0)
  (a26:PySem.W.nsIn K mainGlobals "_law_term"=some (some (.ref f26))) (l26:FA K f26 "_law_term" "_law_term" Jo)
  (a27:PySem.W.nsIn K mainGlobals "_law_body"=some (some (.ref f27))) (l27:FA K f27 "_law_body" "_law_body" Jp)
  (a28:PySem.W.nsIn K mainGlobals "_law_statement"=some (some (.ref f28))) (l28:FA K f28 "_law_statement" "_law_statement" zV)
  (a29:PySem.W.nsIn K mainGlobals "_law_program"=some (some (.ref f29))) (l29:FA K f29 "_law_program" "_law_program" JH)
  (a30:PySem.W.nsIn K mainGlobals "_law_inner"=some (some (.ref f30))) (l30:FA K f30 "_law_inner" "_law_inner" Jz)
  (a31:PySem.W.nsIn K mainGlobals "_law_brought"=some (some (.ref f31))) (l31:FA K f31 "_law_brought" "_law_brought" jS)
  (a32:PySem.W.nsIn K mainGlobals "_law_used"=some (some (.ref f32))) (l32:FA K f32 "_law_used" "_law_used" JZ)
  (a33:PySem.W.nsIn K mainGlobals "_law_gathered"=some (some (.ref f33))) (l33:FA K f33 "_law_gathered" "_law_gathered" jC)
  (a34:PySem.W.nsIn K mainGlobals "_law_all"=some (some (.ref f34))) (l34:FA K f34 "_law_all" "_law_all" wf)
  (a35:PySem.W.nsIn K mainGlobals "_law_holder"=some (some (.ref f35))) (l35:FA K f35 "_law_holder" "_law_holder" J1)
  (a36:PySem.W.nsIn K mainGlobals "_law_wrong_name"=some (some (.ref f36))) (l36:FA K f36 "_law_wrong_name" "_law_wrong_name" zM)
  (a37:PySem.W.nsIn K mainGlobals "_law_said"=some (some (.ref f37))) (l37:FA K f37 "_law_said" "_law_said" Vo)
  (a38:PySem.W.nsIn K mainGlobals "law"=some (some (.ref f38))) (l38:FA K f38 "law" "law" Wb)
  (x_oi:XS K c_BadName f0=true)
  (z_all:PySem.W.nsIn K mainGlobals "all"=some none)
  (z_isinstance:PySem.W.nsIn K mainGlobals "isinstance"=some none)
  (z_str:PySem.W.nsIn K mainGlobals "str"=some none)
  (z_len:PySem.W.nsIn K mainGlobals "len"=some none)
  (z_bool:PySem.W.nsIn K mainGlobals "bool"=some none)
  (z_int:PySem.W.nsIn K mainGlobals "int"=some none)
  (z_tuple:PySem.W.nsIn K mainGlobals "tuple"=some none)
  (z_set:PySem.W.nsIn K mainGlobals "set"=some none)
  (z_zip:PySem.W.nsIn K mainGlobals "zip"=some none)
  (z_reversed:PySem.W.nsIn K mainGlobals "reversed"=some none)
  (z_list:PySem.W.nsIn K mainGlobals "list"=some none)
  (z_sorted:PySem.W.nsIn K mainGlobals "sorted"=some none)
  (z_range:PySem.W.nsIn K mainGlobals "range"=some none)
  (z_enumerate:PySem.W.nsIn K mainGlobals "enumerate"=some none)
  (z_max:PySem.W.nsIn K mainGlobals "max"=some none)
  (z_ValueError:PySem.W.nsIn K mainGlobals "ValueError"=some none)
  (g_MOST_LETTERS:PySem.W.nsIn K mainGlobals "MOST_LETTERS"=some (some (.int 8 t_MOST_LETTERS)))
  (g_GREATEST_NUMBER:PySem.W.nsIn K mainGlobals "GREATEST_NUMBER"=some (some (.int 1000000000000 t_GREATEST_NUMBER)))
  (g_MOST_NAMES:PySem.W.nsIn K mainGlobals "MOST_NAMES"=some (some (.int 4 t_MOST_NAMES)))
  (g_MOST_TERMS:PySem.W.nsIn K mainGlobals "MOST_TERMS"=some (some (.int 4 t_MOST_TERMS)))
  (g_MOST_STATEMENTS:PySem.W.nsIn K mainGlobals "MOST_STATEMENTS"=some (some (.int 12 t_MOST_STATEMENTS)))
  (g_MOST_DEPTH:PySem.W.nsIn K mainGlobals "MOST_DEPTH"=some (some (.int 20 t_MOST_DEPTH)))
  (g_MOST_PARTS:PySem.W.nsIn K mainGlobals "MOST_PARTS"=some (some (.int 300 t_MOST_PARTS)))
  (n_LoomError:PySem.W.nsIn K mainGlobals "LoomError"=some (some (.ref c_LoomError)))
  (n_BadTree:PySem.W.nsIn K mainGlobals "BadTree"=some (some (.ref c_BadTree)))
  (n_BadText:PySem.W.nsIn K mainGlobals "BadText"=some (some (.ref c_BadText)))
  (n_BadName:PySem.W.nsIn K mainGlobals "BadName"=some (some (.ref c_BadName)))
  (n_BadCount:PySem.W.nsIn K mainGlobals "BadCount"=some (some (.ref c_BadCount)))
  (n_BadCode:PySem.W.nsIn K mainGlobals "BadCode"=some (some (.ref c_BadCode)))
  (n_NoThing:PySem.W.nsIn K mainGlobals "NoThing"=some (some (.ref c_NoThing)))
  (n_Scope:PySem.W.nsIn K mainGlobals "Scope"=some (some (.ref c_Scope)))
  (x_own:PySem.W.excIn K c_BadTree bmVE "ValueError.__new__"=true)
  (k_ga:PySem.W.findIn K (.ref c_BadName) "__getattribute__"=some (some (.builtin "BaseException.__getattribute__")))
  (k_gt:PySem.W.findIn K (.ref c_BadName) "__getattr__"=some none)
  (k_be:PySem.W.mroIn K c_BadName (.type "BaseException")=some true)
  (k_cl:PySem.W.clsIn K c_BadName=some cd_BadName)
  (k_fd:PySem.W.findIn K (.ref c_BadName) "__class__"=some (some (.builtin "object.__class__")))
  (k_sp:PySem.W.specialIn K (.builtin "object.__class__") "__get__"=some (some (.builtin "getset_descriptor.__get__")))
  (k_tk:PySem.W.takesIn K (.builtin "object.__class__")=some true)
  (k_ob:PySem.W.mroIn K c_BadName (.type "object")=some true)
  (x_sa:PySem.W.findIn K (.ref c_BadName) "__setattr__"=some (some (.builtin "object.__setattr__")))
  (x_nm:PySem.W.findIn K (.ref c_BadName) "name"=some none)
  (x_mr:cd_BadName.mro= .ref c_BadName:: .ref c_LoomError::bmVE)
  (x_hd:cd_BadName.hasDict=true)
  (x_di:PySem.W.hasDictIn K c_BadName=true)
  (b_sg:PySem.W.specialIn K (.ref c_LoomError) "__getattribute__"=some (some (.builtin "type.__getattribute__")))
  (b_rd:PySem.W.readsIn K c_LoomError (.type "type")=true)
  (b_fc:PySem.W.findCls K (.ref c_LoomError) (.type "type") "__init__"=some (.val (.builtin "ValueError.__init__")))
  (x_e1:PySem.W.exmOne K (.ref c_BadName) (.ref c_LoomError)=some true)
  (x_i1:PySem.W.kitAny K (.ref c_BadName) [.ref c_BadTree,.ref c_BadText,.ref c_BadCount]=some false)
  (x_i2:PySem.W.kitAny K (.ref c_BadName) [.ref c_BadCode,.ref c_NoThing]=some false)
  (x_i3:PySem.W.kitOne K (.ref c_BadName) (.ref c_BadName)=some true)
  (x_i4:PySem.W.kitOne K (.ref c_BadName) (.type "ValueError")=some true)
  (h_pg:PySem.W.plainGet K c_Scope Str.empty=true)
  (h_hd:PySem.W.hasDictIn K c_Scope=true)
  (h_po:PySem.W.plainOver K c_Scope=true)
  (h_sa:PySem.W.findIn K (.ref c_Scope) "__setattr__"=some (some (.builtin "object.__setattr__")))
  (h_aK:PySem.W.findIn K (.ref c_Scope) "kind"=some none)
  (h_aO:PySem.W.findIn K (.ref c_Scope) "outer"=some none)
  (h_aN:PySem.W.findIn K (.ref c_Scope) "names"=some none)
  (h_aU:PySem.W.findIn K (.ref c_Scope) "used"=some none)
  (h_aB:PySem.W.findIn K (.ref c_Scope) "boxed"=some none)
  (h_aT:PySem.W.findIn K (.ref c_Scope) "taken"=some none)
  (h_mk:PySem.W.makesIn K c_Scope=true)
  (h_kc:PySem.W.keepIn K (.ref c_Scope)=true)
  (g_SIGNS:PySem.W.nsIn K mainGlobals "SIGNS"=some (some (.ref a_SIGNS)))
  (l_SIGNS:K.lookup a_SIGNS=some {cls:= .type "tuple",data:= .seq ([.str "+" k_SIGNS_0,.str "-" k_SIGNS_1,.str "*" k_SIGNS_2,.str "<" k_SIGNS_3,.str "=" k_SIGNS_4]:List Value).toArray n_SIGNS})
  (g_FORMS:PySem.W.nsIn K mainGlobals "FORMS"=some (some (.ref a_FORMS)))
  (l_FORMS:K.lookup a_FORMS=some {cls:= .type "dict",data:= .dict ([⟨PyData.keyHash w.params "main",.str "main" k_FORMS_0,.ref a_FORMS0⟩,⟨PyData.keyHash w.params "number",.str "number" k_FORMS_1,.ref a_FORMS1⟩,⟨PyData.keyHash w.params "name",.str "name" k_FORMS_2,.ref a_FORMS2⟩,⟨PyData.keyHash w.params "two",.str "two" k_FORMS_3,.ref a_FORMS3⟩,⟨PyData.keyHash w.params "fun",.str "fun" k_FORMS_4,.ref a_FORMS4⟩,⟨PyData.keyHash w.params "loop",.str "loop" k_FORMS_5,.ref a_FORMS5⟩,⟨PyData.keyHash w.params "call",.str "call" k_FORMS_6,.ref a_FORMS6⟩,⟨PyData.keyHash w.params "step",.str "step" k_FORMS_7,.ref a_FORMS7⟩,⟨PyData.keyHash w.params "let",.str "let" k_FORMS_8,.ref a_FORMS8⟩,⟨PyData.keyHash w.params "set",.str "set" k_FORMS_9,.ref a_FORMS9⟩,⟨PyData.keyHash w.params "do",.str "do" k_FORMS_10,.ref a_FORMS10⟩,⟨PyData.keyHash w.params "if",.str "if" k_FORMS_11,.ref a_FORMS11⟩,⟨PyData.keyHash w.params "while",.str "while" k_FORMS_12,.ref a_FORMS12⟩,⟨PyData.keyHash w.params "hand",.str "hand" k_FORMS_13,.ref a_FORMS13⟩,⟨PyData.keyHash w.params "back",.str "back" k_FORMS_14,.ref a_FORMS14⟩,⟨PyData.keyHash w.params "fault",.str "fault" k_FORMS_15,.ref a_FORMS15⟩,⟨PyData.keyHash w.params "try",.str "try" k_FORMS_16,.ref a_FORMS16⟩]:List DictEntry).toArray n_FORMS})
  (l_FORMS0:K.lookup a_FORMS0=some {cls:= .type "tuple",data:= .seq ([.str "names" k_FORMS0_0,.str "body" k_FORMS0_1]:List Value).toArray n_FORMS0})
  (l_FORMS1:K.lookup a_FORMS1=some {cls:= .type "tuple",data:= .seq ([.str "number" k_FORMS1_0]:List Value).toArray n_FORMS1})
  (l_FORMS2:K.lookup a_FORMS2=some {cls:= .type "tuple",data:= .seq ([.str "name" k_FORMS2_0]:List Value).toArray n_FORMS2})
  (l_FORMS3:K.lookup a_FORMS3=some {cls:= .type "tuple",data:= .seq ([.str "sign" k_FORMS3_0,.str "term" k_FORMS3_1,.str "term" k_FORMS3_2]:List Value).toArray n_FORMS3})
  (l_FORMS4:K.lookup a_FORMS4=some {cls:= .type "tuple",data:= .seq ([.str "names" k_FORMS4_0,.str "body" k_FORMS4_1]:List Value).toArray n_FORMS4})
  (l_FORMS5:K.lookup a_FORMS5=some {cls:= .type "tuple",data:= .seq ([.str "names" k_FORMS5_0,.str "body" k_FORMS5_1]:List Value).toArray n_FORMS5})
  (l_FORMS6:K.lookup a_FORMS6=some {cls:= .type "tuple",data:= .seq ([.str "term" k_FORMS6_0,.str "terms" k_FORMS6_1]:List Value).toArray n_FORMS6})
  (l_FORMS7:K.lookup a_FORMS7=some {cls:= .type "tuple",data:= .seq ([.str "term" k_FORMS7_0,.str "term" k_FORMS7_1]:List Value).toArray n_FORMS7})
  (l_FORMS8:K.lookup a_FORMS8=some {cls:= .type "tuple",data:= .seq ([.str "name" k_FORMS8_0,.str "term" k_FORMS8_1]:List Value).toArray n_FORMS8})
  (l_FORMS9:K.lookup a_FORMS9=some {cls:= .type "tuple",data:= .seq ([.str "name" k_FORMS9_0,.str "term" k_FORMS9_1]:List Value).toArray n_FORMS9})
  (l_FORMS10:K.lookup a_FORMS10=some {cls:= .type "tuple",data:= .seq ([.str "term" k_FORMS10_0]:List Value).toArray n_FORMS10})
  (l_FORMS11:K.lookup a_FORMS11=some {cls:= .type "tuple",data:= .seq ([.str "term" k_FORMS11_0,.str "body" k_FORMS11_1,.str "body" k_FORMS11_2]:List Value).toArray n_FORMS11})
  (l_FORMS12:K.lookup a_FORMS12=some {cls:= .type "tuple",data:= .seq ([.str "term" k_FORMS12_0,.str "body" k_FORMS12_1]:List Value).toArray n_FORMS12})
  (l_FORMS13:K.lookup a_FORMS13=some {cls:= .type "tuple",data:= .seq ([.str "term" k_FORMS13_0]:List Value).toArray n_FORMS13})
  (l_FORMS14:K.lookup a_FORMS14=some {cls:= .type "tuple",data:= .seq ([.str "term" k_FORMS14_0]:List Value).toArray n_FORMS14})
  (l_FORMS15:K.lookup a_FORMS15=some {cls:= .type "tuple",data:= .seq ([.str "word" k_FORMS15_0,.str "term" k_FORMS15_1]:List Value).toArray n_FORMS15})
  (l_FORMS16:K.lookup a_FORMS16=some {cls:= .type "tuple",data:= .seq ([.str "body" k_FORMS16_0,.str "name" k_FORMS16_1,.str "name" k_FORMS16_2,.str "body" k_FORMS16_3,.str "body" k_FORMS16_4]:List Value).toArray n_FORMS16})
  (g_HEADS:PySem.W.nsIn K mainGlobals "HEADS"=some (some (.ref a_HEADS)))
  (l_HEADS:K.lookup a_HEADS=some {cls:= .type "dict",data:= .dict ([⟨PyData.keyHash w.params "program",.str "program" k_HEADS_0,.ref a_HEADS0⟩,⟨PyData.keyHash w.params "term",.str "term" k_HEADS_1,.ref a_HEADS1⟩,⟨PyData.keyHash w.params "statement",.str "statement" k_HEADS_2,.ref a_HEADS2⟩]:List DictEntry).toArray n_HEADS})
  (l_HEADS0:K.lookup a_HEADS0=some {cls:= .type "tuple",data:= .seq ([.str "main" k_HEADS0_0]:List Value).toArray n_HEADS0})
  (l_HEADS1:K.lookup a_HEADS1=some {cls:= .type "tuple",data:= .seq ([.str "number" k_HEADS1_0,.str "name" k_HEADS1_1,.str "two" k_HEADS1_2,.str "fun" k_HEADS1_3,.str "loop" k_HEADS1_4,.str "call" k_HEADS1_5,.str "step" k_HEADS1_6]:List Value).toArray n_HEADS1})
  (l_HEADS2:K.lookup a_HEADS2=some {cls:= .type "tuple",data:= .seq ([.str "let" k_HEADS2_0,.str "set" k_HEADS2_1,.str "do" k_HEADS2_2,.str "if" k_HEADS2_3,.str "while" k_HEADS2_4,.str "hand" k_HEADS2_5,.str "back" k_HEADS2_6,.str "fault" k_HEADS2_7,.str "try" k_HEADS2_8]:List Value).toArray n_HEADS2})
  (g_MEMBERS:PySem.W.nsIn K mainGlobals "MEMBERS"=some (some (.ref a_MEMBERS)))
  (l_MEMBERS:K.lookup a_MEMBERS=some {cls:= .type "dict",data:= .dict ([⟨PyData.keyHash w.params "names",.str "names" k_MEMBERS_0,.str "name" w_MEMBERS_0⟩,⟨PyData.keyHash w.params "terms",.str "terms" k_MEMBERS_1,.str "term" w_MEMBERS_1⟩,⟨PyData.keyHash w.params "body",.str "body" k_MEMBERS_2,.str "statement" w_MEMBERS_2⟩]:List DictEntry).toArray n_MEMBERS})
  (g_INNER_KINDS:PySem.W.nsIn K mainGlobals "INNER_KINDS"=some (some (.ref a_INNER_KINDS)))
  (l_INNER_KINDS:K.lookup a_INNER_KINDS=some {cls:= .type "tuple",data:= .seq ([.str "fun" k_INNER_KINDS_0,.str "loop" k_INNER_KINDS_1]:List Value).toArray n_INNER_KINDS}):
  ∃ fd:FuncData,(∀ (s:Shared) (v:Value),BindsTo s fd ⟨[v],[]⟩ [("_law_script",v)])∧∀ base:Heap,K.In base→base.Ns mainGlobals mg→FnOkG l.prog w K mg base CX0 35 fa fd ["_law_script"] (spLaw K):=by
 have e:=hfa.symm.trans (Ao X G a38);cases e;obtain ⟨_,kV38,dc38,pm38,an38,cd38,ct38,_,l38,c38,k38⟩:=l38;have c:Cs K mg ⟨c_LoomError,c_BadTree,c_BadText,c_BadName,c_BadCount,c_BadCode,c_NoThing,c_Scope⟩:=⟨Br X G z_all,Br X G z_isinstance,Br X G z_str,Br X G z_len,Br X G z_bool,Br X G z_int,Br X G z_tuple,Br X G z_set,Br X G z_zip,Br X G z_reversed,Br X G z_list,Br X G z_sorted,Br X G z_range,Br X G z_enumerate,Br X G z_max,Br X G z_ValueError,⟨_,Ao X G g_MOST_LETTERS,⟨_,rfl⟩⟩,⟨_,Ao X G g_GREATEST_NUMBER,⟨_,rfl⟩⟩,⟨_,Ao X G g_MOST_NAMES,⟨_,rfl⟩⟩,⟨_,Ao X G g_MOST_TERMS,⟨_,rfl⟩⟩,⟨_,Ao X G g_MOST_STATEMENTS,⟨_,rfl⟩⟩,⟨_,Ao X G g_MOST_DEPTH,⟨_,rfl⟩⟩,⟨_,Ao X G g_MOST_PARTS,⟨_,rfl⟩⟩,Ao X G n_LoomError,Ao X G n_BadTree,Ao X G n_BadText,Ao X G n_BadName,Ao X G n_BadCount,Ao X G n_BadCode,Ao X G n_NoThing,Ao X G n_Scope,qfv x_own,⟨k_ga,k_gt,k_be,by rw [k_cl];rfl,k_fd,k_sp,k_tk,k_ob⟩,⟨x_sa,x_nm,_,_,k_cl,x_mr,x_hd⟩,⟨⟨k_ga,k_gt,k_be,by rw [k_cl];rfl,k_fd,k_sp,k_tk,k_ob⟩,x_di,x_nm⟩,⟨b_sg,b_rd,b_fc⟩,x_e1,x_i1,x_i2,x_i3,x_i4,⟨h_pg,h_hd,h_po,h_sa⟩,h_aK,h_aO,h_aN,h_aU,h_aB,h_aT,h_mk,h_kc⟩
 refine ⟨PySem.W.fnOf "law" "law" (vZ Wb) (jU Wb) (qj Wb) .none kV38 dc38 pm38 an38 cd38 ct38,fun s v=> .of_eq rfl,fun base _ _=>?_⟩;have T:Tb l.prog w K mg:=⟨⟨_,Ao X G g_SIGNS,(zA (l:=["+","-","*","<","="]) l_SIGNS (.cons ⟨_,rfl⟩ (.cons ⟨_,rfl⟩ (.cons ⟨_,rfl⟩ (.cons ⟨_,rfl⟩ (.cons ⟨_,rfl⟩ .nil))))) (O0:(5:Nat)≤1000))⟩,⟨_,_,Ao X G g_FORMS,yn l_FORMS (.cons (.cons (.cons (.cons (.cons (.cons (.cons (.cons (.cons (.cons (.cons (.cons (.cons (.cons (.cons (.cons (.cons .nil))))))))))))))))) (show (["main","number","name","two","fun","loop","call","step","let","set","do","if","while","hand","back","fault","try"]:List Str).Nodup from ∅),(.cons (zA (l:=["names","body"]) l_FORMS0 (.cons ⟨_,rfl⟩ (.cons ⟨_,rfl⟩ .nil)) (O0:(2:Nat)≤1000)) (.cons (zA (l:=["number"]) l_FORMS1 (.cons ⟨_,rfl⟩ .nil) (O0:(1:Nat)≤1000)) (.cons (zA (l:=["name"]) l_FORMS2 (.cons ⟨_,rfl⟩ .nil) (O0:(1:Nat)≤1000)) (.cons (zA (l:=["sign","term","term"]) l_FORMS3 (.cons ⟨_,rfl⟩ (.cons ⟨_,rfl⟩ (.cons ⟨_,rfl⟩ .nil))) (O0:(3:Nat)≤1000)) (.cons (zA (l:=["names","body"]) l_FORMS4 (.cons ⟨_,rfl⟩ (.cons ⟨_,rfl⟩ .nil)) (O0:(2:Nat)≤1000)) (.cons (zA (l:=["names","body"]) l_FORMS5 (.cons ⟨_,rfl⟩ (.cons ⟨_,rfl⟩ .nil)) (O0:(2:Nat)≤1000)) (.cons (zA (l:=["term","terms"]) l_FORMS6 (.cons ⟨_,rfl⟩ (.cons ⟨_,rfl⟩ .nil)) (O0:(2:Nat)≤1000)) (.cons (zA (l:=["term","term"]) l_FORMS7 (.cons ⟨_,rfl⟩ (.cons ⟨_,rfl⟩ .nil)) (O0:(2:Nat)≤1000)) (.cons (zA (l:=["name","term"]) l_FORMS8 (.cons ⟨_,rfl⟩ (.cons ⟨_,rfl⟩ .nil)) (O0:(2:Nat)≤1000)) (.cons (zA (l:=["name","term"]) l_FORMS9 (.cons ⟨_,rfl⟩ (.cons ⟨_,rfl⟩ .nil)) (O0:(2:Nat)≤1000)) (.cons (zA (l:=["term"]) l_FORMS10 (.cons ⟨_,rfl⟩ .nil) (O0:(1:Nat)≤1000)) (.cons (zA (l:=["term","body","body"]) l_FORMS11 (.cons ⟨_,rfl⟩ (.cons ⟨_,rfl⟩ (.cons ⟨_,rfl⟩ .nil))) (O0:(3:Nat)≤1000)) (.cons (zA (l:=["term","body"]) l_FORMS12 (.cons ⟨_,rfl⟩ (.cons ⟨_,rfl⟩ .nil)) (O0:(2:Nat)≤1000)) (.cons (zA (l:=["term"]) l_FORMS13 (.cons ⟨_,rfl⟩ .nil) (O0:(1:Nat)≤1000)) (.cons (zA (l:=["term"]) l_FORMS14 (.cons ⟨_,rfl⟩ .nil) (O0:(1:Nat)≤1000)) (.cons (zA (l:=["word","term"]) l_FORMS15 (.cons ⟨_,rfl⟩ (.cons ⟨_,rfl⟩ .nil)) (O0:(2:Nat)≤1000)) (.cons (zA (l:=["body","name","name","body","body"]) l_FORMS16 (.cons ⟨_,rfl⟩ (.cons ⟨_,rfl⟩ (.cons ⟨_,rfl⟩ (.cons ⟨_,rfl⟩ (.cons ⟨_,rfl⟩ .nil))))) (O0:(5:Nat)≤1000)) .nil)))))))))))))))))⟩,⟨_,_,Ao X G g_HEADS,yn l_HEADS (.cons (.cons (.cons .nil))) (show (["program","term","statement"]:List Str).Nodup from ∅),(.cons (zA (l:=["main"]) l_HEADS0 (.cons ⟨_,rfl⟩ .nil) (O0:(1:Nat)≤1000)) (.cons (zA (l:=["number","name","two","fun","loop","call","step"]) l_HEADS1 (.cons ⟨_,rfl⟩ (.cons ⟨_,rfl⟩ (.cons ⟨_,rfl⟩ (.cons ⟨_,rfl⟩ (.cons ⟨_,rfl⟩ (.cons ⟨_,rfl⟩ (.cons ⟨_,rfl⟩ .nil))))))) (O0:(7:Nat)≤1000)) (.cons (zA (l:=["let","set","do","if","while","hand","back","fault","try"]) l_HEADS2 (.cons ⟨_,rfl⟩ (.cons ⟨_,rfl⟩ (.cons ⟨_,rfl⟩ (.cons ⟨_,rfl⟩ (.cons ⟨_,rfl⟩ (.cons ⟨_,rfl⟩ (.cons ⟨_,rfl⟩ (.cons ⟨_,rfl⟩ (.cons ⟨_,rfl⟩ .nil))))))))) (O0:(9:Nat)≤1000)) .nil)))⟩,⟨_,_,Ao X G g_MEMBERS,yn l_MEMBERS (.cons (.cons (.cons .nil))) (show (["names","terms","body"]:List Str).Nodup from ∅),(.cons (.cons (.cons .nil)))⟩⟩;have T2:Tb2 K mg:=⟨⟨_,Ao X G g_INNER_KINDS,(zA (l:=["fun","loop"]) l_INNER_KINDS (.cons ⟨_,rfl⟩ (.cons ⟨_,rfl⟩ .nil)) (O0:(2:Nat)≤1000))⟩⟩;obtain ⟨_,F0,k0⟩:=l0.fn;have b0:=F0.binds (ps:=["self","name"]) fun _ _ _ _ _ _ us hl=>match us,hl with | [_,_],_=>rfl
 have oi:yU K c_BadName f0:=l0.oi x_oi;have I_BadName:IniB l.prog w K mg base c_BadName:=⟨_,_,oi,qcf (P:=l.prog) (w:=w) (base:=base) F0 c oi,b0⟩;obtain ⟨_,F1,k1⟩:=l1.fn;have b1:=F1.binds (ps:=["thing"]) fun _ _ _ _ _ _ us hl=>match us,hl with | [_],_=>rfl
 have d_is_name:Def l.prog w K mg base _ "is_name" ["thing"] _:=⟨_,_,QQ (P:=l.prog) (w:=w) (base:=base) F1 c,b1,k1,Ao X G a1⟩;obtain ⟨_,F2,k2⟩:=l2.fn;have b2:=F2.binds (ps:=["thing"]) fun _ _ _ _ _ _ us hl=>match us,hl with | [_],_=>rfl
 have d_is_number:Def l.prog w K mg base _ "is_number" ["thing"] _:=⟨_,_,Xz (P:=l.prog) (w:=w) (base:=base) F2 c,b2,k2,Ao X G a2⟩;obtain ⟨_,F3,k3⟩:=l3.fn;have b3:=F3.binds (ps:=["thing","most"]) fun _ _ _ _ _ _ us hl=>match us,hl with | [_,_],_=>rfl
 have d_is_row:Def l.prog w K mg base _ "is_row" ["thing","most"] _:=⟨_,_,qcd (P:=l.prog) (w:=w) (base:=base) F3 c,b3,k3,Ao X G a3⟩;obtain ⟨_,F4,k4⟩:=l4.fn;have b4:=F4.binds (ps:=["thing"]) fun _ _ _ _ _ _ us hl=>match us,hl with | [_],_=>rfl
 have d_are_names:Def l.prog w K mg base _ "are_names" ["thing"] _:=⟨_,_,XB (P:=l.prog) (w:=w) (base:=base) F4 c d_is_name d_is_row,b4,k4,Ao X G a4⟩;obtain ⟨_,F5,k5⟩:=l5.fn;have b5:=F5.binds (ps:=["thing","shape"]) fun _ _ _ _ _ _ us hl=>match us,hl with | [_,_],_=>rfl
 have d_has_shape:Def l.prog w K mg base _ "has_shape" ["thing","shape"] _:=⟨_,_,XA (P:=l.prog) (w:=w) (base:=base) F5 c T d_is_name d_is_number d_is_row d_are_names,b5,k5,Ao X G a5⟩;obtain ⟨_,F6,k6⟩:=l6.fn;have b6:=F6.binds (ps:=["thing","shape","hands"]) fun _ _ _ _ _ _ us hl=>match us,hl with | [_,_,_],_=>rfl
 have d_has_form:Def l.prog w K mg base _ "has_form" ["thing","shape","hands"] _:=⟨_,_,ZM (P:=l.prog) (w:=w) (base:=base) F6 c T d_has_shape,b6,k6,Ao X G a6⟩;obtain ⟨_,F7,k7⟩:=l7.fn;have b7:=F7.binds (ps:=["part"]) fun _ _ _ _ _ _ us hl=>match us,hl with | [_],_=>rfl
 have d_inner_with_shapes:Def l.prog w K mg base _ "inner_with_shapes" ["part"] _:=⟨_,_,vx (P:=l.prog) (w:=w) (base:=base) F7 c T,b7,k7,Ao X G a7⟩;obtain ⟨_,F8,k8⟩:=l8.fn;have b8:=F8.binds (ps:=["part","hands"]) fun _ _ _ _ _ _ us hl=>match us,hl with | [_,_],_=>rfl
 have d_hands_within:Def l.prog w K mg base _ "hands_within" ["part","hands"] _:=⟨_,_,Ws (P:=l.prog) (w:=w) (base:=base) F8 c,b8,k8,Ao X G a8⟩;obtain ⟨_,F9,k9⟩:=l9.fn;have b9:=F9.binds (ps:=["thing"]) fun _ _ _ _ _ _ us hl=>match us,hl with | [_],_=>rfl
 have d_is_program:Def l.prog w K mg base _ "is_program" ["thing"] _:=⟨_,_,Yg (P:=l.prog) (w:=w) (base:=base) F9 c d_has_form d_hands_within d_inner_with_shapes,b9,k9,Ao X G a9⟩;obtain ⟨_,F10,k10⟩:=l10.fn;have b10:=F10.binds (ps:=["thing"]) fun _ _ _ _ _ _ us hl=>match us,hl with | [_],_=>rfl
 have d_need_program:DefX l.prog w K mg base _ "need_program" ["thing"] _:=⟨_,_,Wq (P:=l.prog) (w:=w) (base:=base) F10 c d_is_program,b10,k10,Ao X G a10⟩;obtain ⟨_,F11,k11⟩:=l11.fn;have b11:=F11.binds (ps:=["part"]) fun _ _ _ _ _ _ us hl=>match us,hl with | [_],_=>rfl
 have d_inner_of:Def l.prog w K mg base _ "inner_of" ["part"] _:=⟨_,_,ZL (P:=l.prog) (w:=w) (base:=base) F11 c d_inner_with_shapes,b11,k11,Ao X G a11⟩;obtain ⟨_,F12,k12⟩:=l12.fn;have b12:=F12.binds (ps:=["program"]) fun _ _ _ _ _ _ us hl=>match us,hl with | [_],_=>rfl
 have d_functions_of:Def l.prog w K mg base _ "functions_of" ["program"] _:=⟨_,_,Wt (P:=l.prog) (w:=w) (base:=base) F12 c T2 d_need_program d_inner_of,b12,k12,Ao X G a12⟩;obtain ⟨_,F13,k13⟩:=l13.fn;have b13:=F13.binds (ps:=["body"]) fun _ _ _ _ _ _ us hl=>match us,hl with | [_],_=>rfl
 have kn_brought_by:Known K mg "brought_by" ["body"] f13 _:=⟨b13,k13,Ao X G a13⟩;have F_brought_by:=F13;have d_brought_by:=qfm (P:=l.prog) (w:=w) (base:=base) F_brought_by kn_brought_by 21;obtain ⟨_,F14,k14⟩:=l14.fn;have b14:=F14.binds (ps:=["params","body"]) fun _ _ _ _ _ _ us hl=>match us,hl with | [_,_],_=>rfl
 have d_names_of:Def l.prog w K mg base _ "names_of" ["params","body"] _:=⟨_,_,ZH (P:=l.prog) (w:=w) (base:=base) F14 c d_brought_by,b14,k14,Ao X G a14⟩;obtain ⟨_,F15,k15⟩:=l15.fn;have b15:=F15.binds (ps:=["body"]) fun _ _ _ _ _ _ us hl=>match us,hl with | [_],_=>rfl
 have d_used_in:Def l.prog w K mg base _ "used_in" ["body"] _:=⟨_,_,QO (P:=l.prog) (w:=w) (base:=base) F15 c T2 d_inner_of,b15,k15,Ao X G a15⟩;obtain ⟨_,F16,k16⟩:=l16.fn;have b16:=F16.binds (ps:=["self","function"]) fun _ _ _ _ _ _ us hl=>match us,hl with | [_,_],_=>rfl
 have d_Scope:MakeA l.prog w K mg base "Scope" c_Scope _ ["self","function"] _:=⟨⟨_,_,qce (P:=l.prog) (w:=w) (base:=base) F16 c d_names_of d_used_in,b16,⟨c.mkC,a16,i16,c.kc⟩⟩,c.m_Scope⟩;obtain ⟨_,F17,k17⟩:=l17.fn;have b17:=F17.binds (ps:=["self"]) fun _ _ _ _ _ _ us hl=>match us,hl with | [_],_=>rfl
 have d_S_shown_scope:MethN l.prog w K mg base c_Scope _ "shown_scope" ["self"] _:=⟨⟨_,_,wk (P:=l.prog) (w:=w) (base:=base) F17 c,b17,⟨a17,i17,k17⟩⟩,c.cl⟩;obtain ⟨_,F18,k18⟩:=l18.fn;have b18:=F18.binds (ps:=["scopes","number","name"]) fun _ _ _ _ _ _ us hl=>match us,hl with | [_,_,_],_=>rfl
 have d_owner_of:Def l.prog w K mg base _ "owner_of" ["scopes","number","name"] _:=⟨_,_,ZG (P:=l.prog) (w:=w) (base:=base) F18 c,b18,k18,Ao X G a18⟩;obtain ⟨_,F19,k19⟩:=l19.fn;have b19:=F19.binds (ps:=["scopes","number"]) fun _ _ _ _ _ _ us hl=>match us,hl with | [_,_],_=>rfl
 have d_refuse_names:DefY l.prog w K mg base _ "refuse_names" ["scopes","number"] _:=⟨_,_,Wp (P:=l.prog) (w:=w) (base:=base) F19 c I_BadName d_owner_of,b19,k19,Ao X G a19⟩;obtain ⟨_,F20,k20⟩:=l20.fn;have b20:=F20.binds (ps:=["scopes","number","name"]) fun _ _ _ _ _ _ us hl=>match us,hl with | [_,_,_],_=>rfl
 have d_take_name:Def l.prog w K mg base _ "take_name" ["scopes","number","name"] _:=⟨_,_,Xv (P:=l.prog) (w:=w) (base:=base) F20 c d_owner_of,b20,k20,Ao X G a20⟩;obtain ⟨_,F21,k21⟩:=l21.fn;have b21:=F21.binds (ps:=["program"]) fun _ _ _ _ _ _ us hl=>match us,hl with | [_],_=>rfl
 have d_scopes_of:DefY l.prog w K mg base _ "scopes_of" ["program"] _:=⟨_,_,Xw (P:=l.prog) (w:=w) (base:=base) F21 c d_Scope d_S_shown_scope d_functions_of d_refuse_names d_take_name,b21,k21,Ao X G a21⟩;obtain ⟨_,F22,k22⟩:=l22.fn;have b22:=F22.binds (ps:=["_law_script","_law_k"]) fun _ _ _ _ _ _ us hl=>match us,hl with | [_,_],_=>rfl
 have d_law_cell_at:Def l.prog w K mg base _ "_law_cell_at" ["_law_script","_law_k"] _:=⟨_,_,yh (P:=l.prog) (w:=w) (base:=base) F22 c,b22,k22,Ao X G a22⟩;obtain ⟨_,F23,k23⟩:=l23.fn;have b23:=F23.binds (ps:=["_law_state"]) fun _ _ _ _ _ _ us hl=>match us,hl with | [_],_=>rfl
 have d_law_next:Def l.prog w K mg base _ "_law_next" ["_law_state"] _:=⟨_,_,ZK (P:=l.prog) (w:=w) (base:=base) F23 c d_law_cell_at,b23,k23,Ao X G a23⟩;obtain ⟨_,F24,k24⟩:=l24.fn;have b24:=F24.binds (ps:=["_law_cell","_law_many"]) fun _ _ _ _ _ _ us hl=>match us,hl with | [_,_],_=>rfl
 have d_law_names:Def l.prog w K mg base _ "_law_names" ["_law_cell","_law_many"] _:=⟨_,_,Xx (P:=l.prog) (w:=w) (base:=base) F24 c,b24,k24,Ao X G a24⟩;obtain ⟨_,F25,k25⟩:=l25.fn;have b25:=F25.binds (ps:=["_law_more"]) fun _ _ _ _ _ _ us hl=>match us,hl with | [_],_=>rfl
 have d_law_number:Def l.prog w K mg base _ "_law_number" ["_law_more"] _:=⟨_,_,Ye (P:=l.prog) (w:=w) (base:=base) F25 c,b25,k25,Ao X G a25⟩;obtain ⟨_,F26,k26⟩:=l26.fn;have b26:=F26.binds (ps:=["_law_state","_law_deep"]) fun _ _ _ _ _ _ us hl=>match us,hl with | [_,_],_=>rfl
 have kn_law_term:Known K mg "_law_term" ["_law_state","_law_deep"] f26 _:=⟨b26,k26,Ao X G a26⟩;have F_law_term:=F26;obtain ⟨_,F27,k27⟩:=l27.fn;have b27:=F27.binds (ps:=["_law_state","_law_deep","_law_may_hand"]) fun _ _ _ _ _ _ us hl=>match us,hl with | [_,_,_],_=>rfl
 have kn_law_body:Known K mg "_law_body" ["_law_state","_law_deep","_law_may_hand"] f27 _:=⟨b27,k27,Ao X G a27⟩;have F_law_body:=F27;obtain ⟨_,F28,k28⟩:=l28.fn;have b28:=F28.binds (ps:=["_law_state","_law_deep","_law_may_hand"]) fun _ _ _ _ _ _ us hl=>match us,hl with | [_,_,_],_=>rfl
 have kn_law_statement:Known K mg "_law_statement" ["_law_state","_law_deep","_law_may_hand"] f28 _:=⟨b28,k28,Ao X G a28⟩;have F_law_statement:=F28;have d_law_statement:=(drawn (P:=l.prog) (w:=w) (base:=base) F_law_term F_law_statement F_law_body kn_law_term kn_law_statement kn_law_body c d_law_next d_law_number 7).2.1;obtain ⟨_,F29,k29⟩:=l29.fn;have b29:=F29.binds (ps:=["_law_script","_law_most"]) fun _ _ _ _ _ _ us hl=>match us,hl with | [_,_],_=>rfl
 have d_law_program:Def l.prog w K mg base _ "_law_program" ["_law_script","_law_most"] _:=⟨_,_,yg (P:=l.prog) (w:=w) (base:=base) F29 c d_law_cell_at d_law_names d_law_next d_law_statement,b29,k29,Ao X G a29⟩;obtain ⟨_,F30,k30⟩:=l30.fn;have b30:=F30.binds (ps:=["_law_part"]) fun _ _ _ _ _ _ us hl=>match us,hl with | [_],_=>rfl
 have d_law_inner:Def l.prog w K mg base _ "_law_inner" ["_law_part"] _:=⟨_,_,Xy (P:=l.prog) (w:=w) (base:=base) F30 c,b30,k30,Ao X G a30⟩;obtain ⟨_,F31,k31⟩:=l31.fn;have b31:=F31.binds (ps:=["_law_body_here"]) fun _ _ _ _ _ _ us hl=>match us,hl with | [_],_=>rfl
 have kn_law_brought:Known K mg "_law_brought" ["_law_body_here"] f31 _:=⟨b31,k31,Ao X G a31⟩;have F_law_brought:=F31;have d_law_brought:=Qe (P:=l.prog) (w:=w) (base:=base) F_law_brought kn_law_brought c 13;obtain ⟨_,F32,k32⟩:=l32.fn;have b32:=F32.binds (ps:=["_law_part"]) fun _ _ _ _ _ _ us hl=>match us,hl with | [_],_=>rfl
 have kn_law_used:Known K mg "_law_used" ["_law_part"] f32 _:=⟨b32,k32,Ao X G a32⟩;have F_law_used:=F32;have d_law_used:=qhn (P:=l.prog) (w:=w) (base:=base) F_law_used kn_law_used c d_law_inner 12;obtain ⟨_,F33,k33⟩:=l33.fn;have b33:=F33.binds (ps:=["_law_part","_law_number_here","_law_found"]) fun _ _ _ _ _ _ us hl=>match us,hl with | [_,_,_],_=>rfl
 have kn_law_gathered:Known K mg "_law_gathered" ["_law_part","_law_number_here","_law_found"] f33 _:=⟨b33,k33,Ao X G a33⟩;have F_law_gathered:=F33;have d_law_gathered:=qa6 (P:=l.prog) (w:=w) (base:=base) F_law_gathered kn_law_gathered c d_law_inner d_law_brought d_law_used 12;obtain ⟨_,F34,k34⟩:=l34.fn;have b34:=F34.binds (ps:=["_law_program_here"]) fun _ _ _ _ _ _ us hl=>match us,hl with | [_],_=>rfl
 have d_law_all:Def l.prog w K mg base _ "_law_all" ["_law_program_here"] _:=⟨_,_,QP (P:=l.prog) (w:=w) (base:=base) F34 c d_law_brought d_law_used d_law_gathered,b34,k34,Ao X G a34⟩;obtain ⟨_,F35,k35⟩:=l35.fn;have b35:=F35.binds (ps:=["_law_rows","_law_number_here","_law_name"]) fun _ _ _ _ _ _ us hl=>match us,hl with | [_,_,_],_=>rfl
 have d_law_holder:Def l.prog w K mg base _ "_law_holder" ["_law_rows","_law_number_here","_law_name"] _:=⟨_,_,Yf (P:=l.prog) (w:=w) (base:=base) F35 c,b35,k35,Ao X G a35⟩;obtain ⟨_,F36,k36⟩:=l36.fn;have b36:=F36.binds (ps:=["_law_rows"]) fun _ _ _ _ _ _ us hl=>match us,hl with | [_],_=>rfl
 have d_law_wrong_name:Def l.prog w K mg base _ "_law_wrong_name" ["_law_rows"] _:=⟨_,_,VW (P:=l.prog) (w:=w) (base:=base) F36 c d_law_holder,b36,k36,Ao X G a36⟩;obtain ⟨_,F37,k37⟩:=l37.fn;have b37:=F37.binds (ps:=["_law_program_here"]) fun _ _ _ _ _ _ us hl=>match us,hl with | [_],_=>rfl
 have d_law_said:Def l.prog w K mg base _ "_law_said" ["_law_program_here"] _:=⟨_,_,ZJ (P:=l.prog) (w:=w) (base:=base) F37 c d_scopes_of,b37,k37,Ao X G a37⟩;have F38:=qe9 (st:=Wb) l38 c38 k38;exact qi8 F38 c d_law_cell_at d_law_program d_law_all d_law_wrong_name d_law_said
theorem walk {l:PySem.W.OpenLaw} {q:Program} {loose:List Str} {XP:(Str→Option Value)→Heap→Prop} {YP:World→Heap→Prop} {d:DefRec} {K:Params→Frag} (hn:l.most=some 63) (hdf:d.params.defaults=[])
  (hY:∀ (w:World) (h:Heap),YP w h→(K w.params).In h)
  (F:∀ (w:World) (mg:Str→Option Value) (fa:Addr) (h:Heap),(K w.params).In h→h.Ns mainGlobals mg→mg d.name=some (.ref fa)→
   ∃ fd:FuncData,(∀ (s:Shared) (u:Value),BindsTo s fd ⟨[u],[]⟩ [("_law_script",u)])∧∀ base:Heap,(K w.params).In base→base.Ns mainGlobals mg→FnOkG l.prog w (K w.params) mg base CX0 35 fa fd ["_law_script"] (spLaw (K w.params))):
  PySem.W.WalkO q loose XP YP l.row.toRowW d [] (fun f vs=>PySem.call f vs):=
 L2.qdj (n:=63) (k:=35) (x:="_law_script") (CX:=fun _=>CX0) (sp:=fun w=>spLaw (K w.params)) hn O0 hdf ⟨rfl,O0,O0⟩ hY F (fun _ _ a ns hl _ hS=>⟨a,ns,rfl,hS,hl,fun _=>rfl⟩) fun _ _ _ _ _ z=>z
end Mine
set_option Elab.async true
namespace PySem.Challenge.cw_waitloom_k09_names_refused_holds
theorem te7422947148335361397:True:=trivial
theorem te1543661779475108960:True:=trivial
theorem te9815609728984708712:True:=trivial
theorem te9342268329799019550:True:=trivial
theorem te15924574840955392472:True:=trivial
theorem te1598296984506431668:True:=trivial
theorem te10319032340619902737:True:=trivial
theorem te11518947488055494283:True:=trivial
theorem te9020706945864588358:True:=trivial
theorem te1415794531076783296:True:=trivial
theorem te5492110475896974730:True:=trivial
theorem te16240256564016356770:True:=trivial
theorem te17222324068730748921:True:=trivial
theorem te3986539292453303472:True:=trivial
theorem te1412430155106537544:True:=trivial
theorem te13006379737134906745:True:=trivial
theorem te16486829423704506328:True:=trivial
theorem te2915207653686256526:True:=trivial
theorem te11804199176432386517:True:=trivial
theorem te943092054102211646:True:=trivial
theorem te6376479574438414365:True:=trivial
theorem te17381681287536235521:True:=trivial
theorem te10345385874035496936:True:=trivial
theorem te723944029903849075:True:=trivial
theorem te16712100338915658493:True:=trivial
theorem te8409268738037213528:True:=trivial
theorem te18206386776722092230:True:=trivial
theorem te12336701514243283529:True:=trivial
theorem te16817923888633094812:True:=trivial
theorem te17712234783481347417:True:=trivial
theorem te9322399270365464235:True:=trivial
theorem te15352665214221957089:True:=trivial
theorem te1275152632677172522:True:=trivial
theorem te10013975054133378923:True:=trivial
theorem te6302726256391221520:True:=trivial
theorem te7635640136775167217:True:=trivial
theorem te1254479626986158423:True:=trivial
theorem te11409327924007164770:True:=trivial
theorem te9412100895355095693:True:=trivial
theorem te16204811289063465156:True:=trivial
theorem te167144193563559186:True:=trivial
theorem te13931198023740516608:True:=trivial
theorem te6019361131707669639:True:=trivial
theorem te1039267151610791384:True:=trivial
theorem te5731051506058031021:True:=trivial
theorem te2473468421742496671:True:=trivial
theorem te17588729284000974447:True:=trivial
theorem te6885409971659100423:True:=trivial
theorem te4024617224014590154:True:=trivial
theorem te6890613028911416824:True:=trivial
theorem te15125905538293372185:True:=trivial
theorem te10868281204215477276:True:=trivial
theorem te3922503076201112688:True:=trivial
theorem te1675160383258857700:True:=trivial
theorem te7758697285047445929:True:=trivial
theorem te1401966922625517262:True:=trivial
theorem te6241167411543403185:True:=trivial
theorem te2426099750089226319:True:=trivial
theorem te8046689740136740013:True:=trivial
theorem te14110858491607017694:True:=trivial
theorem te1647728418470750290:True:=trivial
theorem te5282390174863192243:True:=trivial
theorem te5488093800747034891:True:=trivial
theorem te17623559973517155383:True:=trivial
theorem te2276880440244941043:True:=trivial
theorem te14087054777490773206:True:=trivial
theorem te509786483325030229:True:=trivial
theorem te12656746216673359343:True:=trivial
theorem te17239487133839590803:True:=trivial
theorem te12228736504247345158:True:=trivial
theorem te5073234545856260554:True:=trivial
theorem te15628048373110695431:True:=trivial
theorem te6699153423716217056:True:=trivial
theorem te13092317227650480291:True:=trivial
theorem te14880763330439322268:True:=trivial
theorem te14876101606976202575:True:=trivial
theorem te15527290176156171073:True:=trivial
theorem te7418094099205723565:True:=trivial
theorem te5229695095493183776:True:=trivial
theorem te14926158142734201404:True:=trivial
theorem te14009088863658655943:True:=trivial
theorem te7481798320789401254:True:=trivial
theorem te2939482262679090351:True:=trivial
theorem te5107276389235162073:True:=trivial
theorem te17289633635712411834:True:=trivial
theorem te16470401373644209353:True:=trivial
theorem te17768546277019215603:True:=trivial
theorem te10453042382602862155:True:=trivial
theorem te17698309043988292920:True:=trivial
theorem te17886930334173216450:True:=trivial
theorem te6265264918332714887:True:=trivial
theorem te5171458586964629492:True:=trivial
theorem te1613835521478457960:True:=trivial
theorem te16892069000447857582:True:=trivial
theorem te9884112520782717448:True:=trivial
theorem te13196578951177245246:True:=trivial
theorem te5622405094126781520:True:=trivial
theorem te10339419574839249974:True:=trivial
theorem te1659921182652533145:True:=trivial
theorem te17414866604946376352:True:=trivial
theorem te1532116580233650802:True:=trivial
theorem te18157580584429581697:True:=trivial
theorem te773224021898704955:True:=trivial
theorem te7822234798731512134:True:=trivial
theorem te10522568035905182594:True:=trivial
theorem te15569195170527169139:True:=trivial
theorem te6494956731650007066:True:=trivial
theorem te3530882486581933903:True:=trivial
theorem te3290934992684962708:True:=trivial
theorem te6538926174167156220:True:=trivial
theorem te3498328711768628806:True:=trivial
theorem te4744256280732857170:True:=trivial
theorem te9614041468370883599:True:=trivial
theorem te10794737521971264533:True:=trivial
theorem te11358203998921961111:True:=trivial
theorem te9396674032110616927:True:=trivial
theorem te12965853906575717224:True:=trivial
theorem te2827336475390061042:True:=trivial
theorem te8437128394542183729:True:=trivial
theorem te8770455995184469508:True:=trivial
theorem te12421773311617336127:True:=trivial
theorem te13071109463554698707:True:=trivial
theorem te4664544302953230826:True:=trivial
theorem te3817563524639876221:True:=trivial
theorem te5642545077130914912:True:=trivial
theorem te15423194795195655691:True:=trivial
theorem te7707329866459127782:True:=trivial
theorem te9748493367823895177:True:=trivial
theorem te14072493099919823648:True:=trivial
theorem te1485205312056225815:True:=trivial
theorem te466015112408092019:True:=trivial
theorem te6092745004811547353:True:=trivial
theorem te15777888733408124731:True:=trivial
theorem te15191225161250552403:True:=trivial
theorem te10409778645226931345:True:=trivial
theorem te7261480364458454163:True:=trivial
theorem te6080032776869528682:True:=trivial
theorem te3224150003539693017:True:=trivial
theorem te16651049540805859336:True:=trivial
theorem te11729242898569357308:True:=trivial
theorem te6619275098250232410:True:=trivial
theorem te13700312078344797341:True:=trivial
theorem te5608726527710230473:True:=trivial
theorem te9012169022489768527:True:=trivial
theorem te5044739640557729564:True:=trivial
theorem te14276821919043692675:True:=trivial
theorem te9557285866823450384:True:=trivial
theorem te10822162695165227778:True:=trivial
theorem te18266147204250216932:True:=trivial
theorem te14692094151274679916:True:=trivial
theorem te3385158527896557948:True:=trivial
theorem te8879977121297503670:True:=trivial
theorem te13774218011267978657:True:=trivial
theorem te9310055959732171913:True:=trivial
theorem te12575719364902358288:True:=trivial
theorem te9262121113462780832:True:=trivial
theorem te14168987607758010910:True:=trivial
theorem te6824206267903466074:True:=trivial
theorem te589667939114331125:True:=trivial
theorem te4870930916792955969:True:=trivial
theorem te12901323509024742719:True:=trivial
theorem te12275856430027871807:True:=trivial
theorem te7143295580210110269:True:=trivial
theorem te16989201052996889618:True:=trivial
theorem te9486859222447418278:True:=trivial
theorem te6563161071092029786:True:=trivial
theorem te3528648899819660890:True:=trivial
theorem te5011341270263266782:True:=trivial
theorem te10415160452662403967:True:=trivial
theorem te8512633030536832097:True:=trivial
theorem te6254031467591756822:True:=trivial
theorem te17486113496137948806:True:=trivial
theorem te7731693625135498783:True:=trivial
theorem te15543847254900335404:True:=trivial
theorem te17875744097142553775:True:=trivial
theorem te1653802255953095619:True:=trivial
theorem te16342851201824100721:True:=trivial
theorem te53474491275197488:True:=trivial
theorem te13031745399493476266:True:=trivial
theorem te9901366751676919095:True:=trivial
theorem te14815902948250214423:True:=trivial
theorem te7445855353164229530:True:=trivial
theorem te15864361262763251987:True:=trivial
theorem te17016500823029520850:True:=trivial
theorem te13756360166114345106:True:=trivial
theorem te10139140467225445599:True:=trivial
theorem te9163856300228373124:True:=trivial
theorem te13673453905847264017:True:=trivial
theorem te14859377866127616699:True:=trivial
theorem te1049989170744250281:True:=trivial
theorem te17453673938427603797:True:=trivial
theorem te1424707636676786603:True:=trivial
theorem te11733851965527042632:True:=trivial
theorem te12295052194308666904:True:=trivial
theorem te4357686448341604755:True:=trivial
theorem te15528199910462574436:True:=trivial
theorem te3343103015007405733:True:=trivial
theorem te4845044568861730824:True:=trivial
theorem te3121321953857768401:True:=trivial
theorem te4187793387776138403:True:=trivial
theorem te16851206710205516962:True:=trivial
theorem te14723892310664548863:True:=trivial
theorem te12294334590108955472:True:=trivial
theorem te17929793838413057432:True:=trivial
theorem te2172635182582942516:True:=trivial
theorem te11978734129640449037:True:=trivial
theorem te5606302970491368018:True:=trivial
theorem te14058066245993190589:True:=trivial
theorem te15075923686015436553:True:=trivial
theorem te5706219095562077413:True:=trivial
theorem te8659805683968985547:True:=trivial
theorem te12342887932121225019:True:=trivial
theorem te12563832858142529601:True:=trivial
theorem te11496255092772534296:True:=trivial
theorem te13426613484328104161:True:=trivial
theorem te11232405529721175854:True:=trivial
theorem te14071095750508791561:True:=trivial
theorem te1309848760388641772:True:=trivial
theorem te7920577661274771771:True:=trivial
theorem te4058832257888567457:True:=trivial
theorem te11035752649782999429:True:=trivial
theorem te348280634081100598:True:=trivial
theorem te5855300037301660090:True:=trivial
theorem te4049667287859335812:True:=trivial
theorem te9993476279734571085:True:=trivial
theorem te1412511857550260233:True:=trivial
theorem te1551101904241431160:True:=trivial
theorem te17502857652495458647:True:=trivial
theorem te14726652203728687052:True:=trivial
theorem te13356138081146202867:True:=trivial
theorem te16966001855720947108:True:=trivial
theorem te9621510138693059445:True:=trivial
theorem te2677695643180962359:True:=trivial
theorem te8871617994873472406:True:=trivial
theorem te13150938969135185455:True:=trivial
theorem te411218233016243829:True:=trivial
theorem te5721118652620033008:True:=trivial
theorem te17621491962774067788:True:=trivial
theorem te17887681756749023836:True:=trivial
theorem te13594284359599016560:True:=trivial
theorem te4576959824929850544:True:=trivial
theorem te1334513482325653641:True:=trivial
theorem te10545864431807720123:True:=trivial
theorem te15016847296731784221:True:=trivial
theorem te11274508527687043578:True:=trivial
theorem te12784653443468213981:True:=trivial
theorem te2089401979843776672:True:=trivial
theorem te12196035121152281959:True:=trivial
theorem te14838528459074732891:True:=trivial
theorem te2513879891421545606:True:=trivial
theorem te9130144228793239395:True:=trivial
theorem te650249328750680222:True:=trivial
theorem te4891242501102288062:True:=trivial
theorem te17976258172859423502:True:=trivial
theorem te634064556967812177:True:=trivial
theorem te10787416718829542747:True:=trivial
theorem te3522704767739082039:True:=trivial
theorem te5832596102253123537:True:=trivial
theorem te12087155538084346325:True:=trivial
theorem te17000813842630548203:True:=trivial
theorem te14502967983593491805:True:=trivial
theorem te6767470041799862246:True:=trivial
theorem te6158548319597332000:True:=trivial
theorem te1263546060839441896:True:=trivial
theorem te6183260227883530184:True:=trivial
theorem te10759462804457381139:True:=trivial
theorem te17952008273108517629:True:=trivial
theorem te10949494924551487371:True:=trivial
theorem te17454693288675929484:True:=trivial
theorem te6692225402395748650:True:=trivial
theorem te592672053845751372:True:=trivial
theorem te13618066556638121269:True:=trivial
theorem te7291714518550954551:True:=trivial
theorem te13023678770251217680:True:=trivial
theorem te8653705789219963443:True:=trivial
theorem te2176173344069962545:True:=trivial
theorem te10852308017148510781:True:=trivial
theorem te3330112871851906300:True:=trivial
theorem te11361348977493548873:True:=trivial
theorem te795073812079722017:True:=trivial
theorem te14771170455054656076:True:=trivial
theorem te5713278826215792701:True:=trivial
theorem te1265142922228330447:True:=trivial
theorem te14290084094935963599:True:=trivial
theorem te11105023505650540199:True:=trivial
theorem te16066645247162206732:True:=trivial
theorem te11213021385492907073:True:=trivial
theorem te13987094391842760890:True:=trivial
theorem te181666872014356635:True:=trivial
theorem te12180679015884634398:True:=trivial
theorem te7988165112940999730:True:=trivial
theorem te14217677004305033096:True:=trivial
theorem te12374884816665020860:True:=trivial
theorem te14422781442715799384:True:=trivial
theorem te12109172890004785379:True:=trivial
theorem te7989536862535856820:True:=trivial
theorem te4934354135841393053:True:=trivial
theorem te354485164509672119:True:=trivial
theorem te6433694634290912020:True:=trivial
theorem te5381274605873403161:True:=trivial
theorem te16213650831474568071:True:=trivial
theorem te3826498576216380924:True:=trivial
theorem te6885033514850776055:True:=trivial
theorem te4203394932209963231:True:=trivial
theorem te6558469008474118770:True:=trivial
theorem te17783148644597788822:True:=trivial
theorem te11874756747260143906:True:=trivial
theorem te18380714487955456876:True:=trivial
theorem te11036419214023571058:True:=trivial
theorem te7546522579359003535:True:=trivial
theorem te13456505238408836089:True:=trivial
theorem te9554050577558903480:True:=trivial
theorem te17266947135691798714:True:=trivial
theorem te8269055273423267890:True:=trivial
theorem te15740507391279034446:True:=trivial
theorem te8684705407195088365:True:=trivial
theorem te16588775551494570673:True:=trivial
theorem te14111677925847480867:True:=trivial
theorem te13502085628816242419:True:=trivial
theorem te9911572169831199057:True:=trivial
theorem te2856319430325531774:True:=trivial
theorem te6586629267069666333:True:=trivial
theorem te5135787164050272533:True:=trivial
theorem te3086130048897143517:True:=trivial
theorem te17142921047705976413:True:=trivial
theorem te12466141324376547502:True:=trivial
theorem te15636148427246028781:True:=trivial
theorem te10101103540516112083:True:=trivial
theorem te6996416954660698269:True:=trivial
theorem te11140966612454274912:True:=trivial
theorem te14677133990156224260:True:=trivial
theorem te13642158402790309073:True:=trivial
theorem te13148868624442028277:True:=trivial
theorem te8069727174376446076:True:=trivial
theorem te2465336775306673466:True:=trivial
theorem te12246619105821123098:True:=trivial
theorem te8255242570183438164:True:=trivial
theorem te3809911140072282297:True:=trivial
theorem te16008674001603380969:True:=trivial
theorem te10463533851364020542:True:=trivial
theorem te15056676446390702927:True:=trivial
theorem te1854436135731394276:True:=trivial
theorem te14634248033739114893:True:=trivial
theorem te3617939242874819814:True:=trivial
theorem te4704406858529561932:True:=trivial
theorem te7395172910668642328:True:=trivial
theorem te14667534896149466429:True:=trivial
theorem te10235152724340346171:True:=trivial
theorem te4250548993643324854:True:=trivial
theorem te16609979235388901173:True:=trivial
theorem te13787775553864020365:True:=trivial
theorem te8405946674590560782:True:=trivial
theorem te16924176590018605973:True:=trivial
theorem te2818561078922564489:True:=trivial
theorem te7572035931105062191:True:=trivial
theorem te10716887423793075452:True:=trivial
theorem te11880577579341570992:True:=trivial
theorem te14734153271227774236:True:=trivial
theorem te485021563566647245:True:=trivial
theorem te16881801421301815765:True:=trivial
theorem te7946785905018455106:True:=trivial
theorem te17978468114127951144:True:=trivial
theorem te9990000303176632344:True:=trivial
theorem te15531807044649128699:True:=trivial
theorem te1403427895017373415:True:=trivial
theorem te12613290161050517215:True:=trivial
theorem te10919512319085013551:True:=trivial
theorem te2923954036100235091:True:=trivial
theorem te10968824015990879808:True:=trivial
theorem te4645427179609692492:True:=trivial
theorem te6677754410622680759:True:=trivial
theorem te5432572408661439971:True:=trivial
theorem te16955081413487909880:True:=trivial
theorem te9603611360788943845:True:=trivial
theorem te13491617004317913522:True:=trivial
theorem te622626598028126624:True:=trivial
theorem te9284847999890443353:True:=trivial
theorem te11287857193631449607:True:=trivial
theorem te17874302275467723333:True:=trivial
theorem te10317271182434435908:True:=trivial
theorem te2112091053293665634:True:=trivial
theorem te6721372472194699258:True:=trivial
theorem te619139856927841220:True:=trivial
theorem te14763178608620570291:True:=trivial
theorem te17731757103470208939:True:=trivial
theorem te659461703963533493:True:=trivial
theorem te443690528557135753:True:=trivial
theorem te4079178971532082623:True:=trivial
theorem te1040457677772801669:True:=trivial
theorem te5717283571373198497:True:=trivial
theorem te5522401775655962048:True:=trivial
theorem te7701343197393854236:True:=trivial
theorem te6766493321313573095:True:=trivial
theorem te2663892151848420004:True:=trivial
theorem te14753504719288663375:True:=trivial
theorem te18113699215614870004:True:=trivial
theorem te4522710275371330805:True:=trivial
theorem te14665467117682478998:True:=trivial
theorem te14250625412695963370:True:=trivial
theorem te584063914856626382:True:=trivial
theorem te9912796699327673905:True:=trivial
theorem te7473875547107668025:True:=trivial
theorem te7751182871967845483:True:=trivial
end PySem.Challenge.cw_waitloom_k09_names_refused_holds
def PySem.Challenge.cw_waitloom_k09_names_refused_holds.tw16726795919709154561:PySem.Program:=PySem.Challenge.pw_waitloom_k09_names_refused
theorem PySem.Challenge.cw_waitloom_k09_names_refused_holds.te16726795919709154561:PySem.Challenge.pw_waitloom_k09_names_refused=PySem.Challenge.cw_waitloom_k09_names_refused_holds.tw16726795919709154561:=rfl
open PySem PySem.W PyProof.Rows
set_option maxRecDepth 100000 in
set_option maxHeartbeats 0 in
theorem PySem.Challenge.cw_waitloom_k09_names_refused_holds : PySem.Challenge.rw_waitloom_k09_names_refused.Holds := by
 w_on;o_law;k_head;(case hw=>w_witness2)
 k_fill
 refine Mine.walk (l:=PySem.Challenge.rw_waitloom_k09_names_refused) rfl rfl (fun w h Y=>PySem.W.kIn_of Y) ?F
 case F=>
  intro w mg fa h KX G hmg;refine' Mine.qj0 KX G hmg ?a0 ?i0 ?l0 ?a1 ?l1 ?a2 ?l2 ?a3 ?l3 ?a4 ?l4 ?a5 ?l5 ?a6 ?l6 ?a7 ?l7 ?a8 ?l8 ?a9 ?l9 ?a10 ?l10 ?a11 ?l11 ?a12 ?l12 ?a13 ?l13 ?a14 ?l14 ?a15 ?l15 ?a16 ?i16 ?l16 ?a17 ?i17 ?l17 ?a18 ?l18 ?a19 ?l19 ?a20 ?l20 ?a21 ?l21 ?a22 ?l22 ?a23 ?l23 ?a24 ?l24 ?a25 ?l25 ?a26 ?l26 ?a27 ?l27 ?a28 ?l28 ?a29 ?l29 ?a30 ?l30 ?a31 ?l31 ?a32 ?l32 ?a33 ?l33 ?a34 ?l34 ?a35 ?l35 ?a36 ?l36 ?a37 ?l37 ?a38 ?l38 ?x_oi ?z_all ?z_isinstance ?z_str ?z_len ?z_bool ?z_int ?z_tuple ?z_set ?z_zip ?z_reversed ?z_list ?z_sorted ?z_range ?z_enumerate ?z_max ?z_ValueError ?g_MOST_LETTERS ?g_GREATEST_NUMBER ?g_MOST_NAMES ?g_MOST_TERMS ?g_MOST_STATEMENTS ?g_MOST_DEPTH ?g_MOST_PARTS ?n_LoomError ?n_BadTree ?n_BadText ?n_BadName ?n_BadCount ?n_BadCode ?n_NoThing ?n_Scope ?x_own ?k_ga ?k_gt ?k_be ?k_cl ?k_fd ?k_sp ?k_tk ?k_ob ?x_sa ?x_nm ?x_mr ?x_hd ?x_di ?b_sg ?b_rd ?b_fc ?x_e1 ?x_i1 ?x_i2 ?x_i3 ?x_i4 ?h_pg ?h_hd ?h_po ?h_sa ?h_aK ?h_aO ?h_aN ?h_aU ?h_aB ?h_aT ?h_mk ?h_kc ?g_SIGNS ?l_SIGNS ?g_FORMS ?l_FORMS ?l_FORMS0 ?l_FORMS1 ?l_FORMS2 ?l_FORMS3 ?l_FORMS4 ?l_FORMS5 ?l_FORMS6 ?l_FORMS7 ?l_FORMS8 ?l_FORMS9 ?l_FORMS10 ?l_FORMS11 ?l_FORMS12 ?l_FORMS13 ?l_FORMS14 ?l_FORMS15 ?l_FORMS16 ?g_HEADS ?l_HEADS ?l_HEADS0 ?l_HEADS1 ?l_HEADS2 ?g_MEMBERS ?l_MEMBERS ?g_INNER_KINDS ?l_INNER_KINDS
  (case n_LoomError=>k_is)
  (case n_BadTree=>k_is)
  (case n_BadText=>k_is)
  (case n_BadName=>k_is)
  (case n_BadCount=>k_is)
  (case n_BadCode=>k_is)
  (case n_NoThing=>k_is)
  (case n_Scope=>k_is)
  (case a0=>k_is)
  (case i0=>k_is)
  (case l0=>exact ⟨_,_,_,_,_,_,_,_,by k_is,by k_is,by k_is⟩)
  (case a1=>k_is)
  (case l1=>exact ⟨_,_,_,_,_,_,_,_,by k_is,by k_is,by k_is⟩)
  (case a2=>k_is)
  (case l2=>exact ⟨_,_,_,_,_,_,_,_,by k_is,by k_is,by k_is⟩)
  (case a3=>k_is)
  (case l3=>exact ⟨_,_,_,_,_,_,_,_,by k_is,by k_is,by k_is⟩)
  (case a4=>k_is)
  (case l4=>exact ⟨_,_,_,_,_,_,_,_,by k_is,by k_is,by k_is⟩)
  (case a5=>k_is)
  (case l5=>exact ⟨_,_,_,_,_,_,_,_,by k_is,by k_is,by k_is⟩)
  (case a6=>k_is)
  (case l6=>exact ⟨_,_,_,_,_,_,_,_,by k_is,by k_is,by k_is⟩)
  (case a7=>k_is)
  (case l7=>exact ⟨_,_,_,_,_,_,_,_,by k_is,by k_is,by k_is⟩)
  (case a8=>k_is)
  (case l8=>exact ⟨_,_,_,_,_,_,_,_,by k_is,by k_is,by k_is⟩)
  (case a9=>k_is)
  (case l9=>exact ⟨_,_,_,_,_,_,_,_,by k_is,by k_is,by k_is⟩)
  (case a10=>k_is)
  (case l10=>exact ⟨_,_,_,_,_,_,_,_,by k_is,by k_is,by k_is⟩)
  (case a11=>k_is)
  (case l11=>exact ⟨_,_,_,_,_,_,_,_,by k_is,by k_is,by k_is⟩)
  (case a12=>k_is)
  (case l12=>exact ⟨_,_,_,_,_,_,_,_,by k_is,by k_is,by k_is⟩)
  (case a13=>k_is)
  (case l13=>exact ⟨_,_,_,_,_,_,_,_,by k_is,by k_is,by k_is⟩)
  (case a14=>k_is)
  (case l14=>exact ⟨_,_,_,_,_,_,_,_,by k_is,by k_is,by k_is⟩)
  (case a15=>k_is)
  (case l15=>exact ⟨_,_,_,_,_,_,_,_,by k_is,by k_is,by k_is⟩)
  (case a16=>k_is)
  (case i16=>k_is)
  (case l16=>exact ⟨_,_,_,_,_,_,_,_,by k_is,by k_is,by k_is⟩)
  (case a17=>k_is)
  (case i17=>k_is)
  (case l17=>exact ⟨_,_,_,_,_,_,_,_,by k_is,by k_is,by k_is⟩)
  (case a18=>k_is)
  (case l18=>exact ⟨_,_,_,_,_,_,_,_,by k_is,by k_is,by k_is⟩)
  (case a19=>k_is)
  (case l19=>exact ⟨_,_,_,_,_,_,_,_,by k_is,by k_is,by k_is⟩)
  (case a20=>k_is)
  (case l20=>exact ⟨_,_,_,_,_,_,_,_,by k_is,by k_is,by k_is⟩)
  (case a21=>k_is)
  (case l21=>exact ⟨_,_,_,_,_,_,_,_,by k_is,by k_is,by k_is⟩)
  (case a22=>k_is)
  (case l22=>exact ⟨_,_,_,_,_,_,_,_,by k_is,by k_is,by k_is⟩)
  (case a23=>k_is)
  (case l23=>exact ⟨_,_,_,_,_,_,_,_,by k_is,by k_is,by k_is⟩)
  (case a24=>k_is)
  (case l24=>exact ⟨_,_,_,_,_,_,_,_,by k_is,by k_is,by k_is⟩)
  (case a25=>k_is)
  (case l25=>exact ⟨_,_,_,_,_,_,_,_,by k_is,by k_is,by k_is⟩)
  (case a26=>k_is)
  (case l26=>exact ⟨_,_,_,_,_,_,_,_,by k_is,by k_is,by k_is⟩)
  (case a27=>k_is)
  (case l27=>exact ⟨_,_,_,_,_,_,_,_,by k_is,by k_is,by k_is⟩)
  (case a28=>k_is)
  (case l28=>exact ⟨_,_,_,_,_,_,_,_,by k_is,by k_is,by k_is⟩)
  (case a29=>k_is)
  (case l29=>exact ⟨_,_,_,_,_,_,_,_,by k_is,by k_is,by k_is⟩)
  (case a30=>k_is)
  (case l30=>exact ⟨_,_,_,_,_,_,_,_,by k_is,by k_is,by k_is⟩)
  (case a31=>k_is)
  (case l31=>exact ⟨_,_,_,_,_,_,_,_,by k_is,by k_is,by k_is⟩)
  (case a32=>k_is)
  (case l32=>exact ⟨_,_,_,_,_,_,_,_,by k_is,by k_is,by k_is⟩)
  (case a33=>k_is)
  (case l33=>exact ⟨_,_,_,_,_,_,_,_,by k_is,by k_is,by k_is⟩)
  (case a34=>k_is)
  (case l34=>exact ⟨_,_,_,_,_,_,_,_,by k_is,by k_is,by k_is⟩)
  (case a35=>k_is)
  (case l35=>exact ⟨_,_,_,_,_,_,_,_,by k_is,by k_is,by k_is⟩)
  (case a36=>k_is)
  (case l36=>exact ⟨_,_,_,_,_,_,_,_,by k_is,by k_is,by k_is⟩)
  (case a37=>k_is)
  (case l37=>exact ⟨_,_,_,_,_,_,_,_,by k_is,by k_is,by k_is⟩)
  (case a38=>k_is)
  (case l38=>exact ⟨_,_,_,_,_,_,_,_,by k_is,by k_is,by k_is⟩)
  (case x_oi=>first | kernel_rfl | decide+kernel)
  (case z_all=>k_is)
  (case z_isinstance=>k_is)
  (case z_str=>k_is)
  (case z_len=>k_is)
  (case z_bool=>k_is)
  (case z_int=>k_is)
  (case z_tuple=>k_is)
  (case z_set=>k_is)
  (case z_zip=>k_is)
  (case z_reversed=>k_is)
  (case z_list=>k_is)
  (case z_sorted=>k_is)
  (case z_range=>k_is)
  (case z_enumerate=>k_is)
  (case z_max=>k_is)
  (case z_ValueError=>k_is)
  (case g_MOST_LETTERS=>k_is)
  (case g_GREATEST_NUMBER=>k_is)
  (case g_MOST_NAMES=>k_is)
  (case g_MOST_TERMS=>k_is)
  (case g_MOST_STATEMENTS=>k_is)
  (case g_MOST_DEPTH=>k_is)
  (case g_MOST_PARTS=>k_is)
  (case x_own=>k_exc)
  (case k_ga=>k_is)
  (case k_gt=>k_is)
  (case k_be=>k_is)
  (case k_cl=>k_is)
  (case k_fd=>k_is)
  (case k_sp=>k_is)
  (case k_tk=>k_is)
  (case k_ob=>k_is)
  (case x_sa=>k_is)
  (case x_nm=>k_is)
  (case x_mr=>rfl)
  (case x_hd=>rfl)
  (case x_di=>k_is)
  (case b_sg=>k_is)
  (case b_rd=>k_is)
  (case b_fc=>k_is)
  (case x_e1=>kts_exm)
  (case x_i1=>kit_is)
  (case x_i2=>kit_is)
  (case x_i3=>kit_is)
  (case x_i4=>kit_is)
  (case h_pg=>k_is)
  (case h_hd=>k_is)
  (case h_po=>k_is)
  (case h_sa=>k_is)
  (case h_aK=>k_is)
  (case h_aO=>k_is)
  (case h_aN=>k_is)
  (case h_aU=>k_is)
  (case h_aB=>k_is)
  (case h_aT=>k_is)
  (case h_mk=>k_is)
  (case h_kc=>k_is)
  (case g_SIGNS=>k_is)
  (case l_SIGNS=>k_is)
  (case g_FORMS=>k_is)
  (case l_FORMS=>k_is)
  (case l_FORMS0=>k_is)
  (case l_FORMS1=>k_is)
  (case l_FORMS2=>k_is)
  (case l_FORMS3=>k_is)
  (case l_FORMS4=>k_is)
  (case l_FORMS5=>k_is)
  (case l_FORMS6=>k_is)
  (case l_FORMS7=>k_is)
  (case l_FORMS8=>k_is)
  (case l_FORMS9=>k_is)
  (case l_FORMS10=>k_is)
  (case l_FORMS11=>k_is)
  (case l_FORMS12=>k_is)
  (case l_FORMS13=>k_is)
  (case l_FORMS14=>k_is)
  (case l_FORMS15=>k_is)
  (case l_FORMS16=>k_is)
  (case g_HEADS=>k_is)
  (case l_HEADS=>k_is)
  (case l_HEADS0=>k_is)
  (case l_HEADS1=>k_is)
  (case l_HEADS2=>k_is)
  (case g_MEMBERS=>k_is)
  (case l_MEMBERS=>k_is)
  (case g_INNER_KINDS=>k_is)
  (case l_INNER_KINDS=>k_is)
